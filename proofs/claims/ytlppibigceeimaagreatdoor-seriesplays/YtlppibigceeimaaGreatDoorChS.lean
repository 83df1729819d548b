import Derived.Test.YtlppibigceeimaaGreatDoorChF
import Derived.Test.YtlppibigceeimaaGreatDoorChK
set_option linter.unusedSimpArgs false
set_option linter.unusedVariables false
set_option maxHeartbeats 40000000
set_option maxRecDepth 100000
namespace Go.Proofs.YtlppibigceeimaaGreatDoor
open Go.RowKit
theorem info32:(Tryz.prog.info? 53).map (fun i=>(i.zero,i.size,i.bytes))=some (some (.agg #[.int .i64 0,.int .u64 0]),2,16):=by kernel_rfl
structure Ss (w:World) (ad:Option Addr) (l:List Sm):Prop where
 sz:∀x∈l,OkS x
 at':l≠[]→∃b off,ad=some ⟨b,off,none⟩∧b<w.heap.size∧∀i x,l[i]?=some x→w.cell? ⟨b,off+i*2,none⟩=some (.int .i64 x.t)∧w.cell? ⟨b,off+i*2+1,none⟩=some (.int .u64 (x.v:Int))
theorem Ss.later {w w':World} {ad:Option Addr} {l:List Sm} (h:Ss w ad l) (hb:Below w.heap.size w w'):Ss w' ad l:=by
 refine ⟨h.sz,fun h0=>?_⟩
 obtain ⟨b,off,e,hlt,hc⟩:=h.at' h0
 refine ⟨b,off,e,Nat.lt_of_lt_of_le hlt hb.size,fun i x hx=>?_⟩
 rw [hb.cell (p:=⟨b,off+i*2,none⟩) hlt,hb.cell (p:=⟨b,off+i*2+1,none⟩) hlt]
 exact hc i x hx
theorem Ss.nil (w:World) (ad:Option Addr):Ss w ad []:=⟨by simp,fun h=>absurd rfl h⟩
theorem Ss.get {w:World} {ad:Option Addr} {l:List Sm} (h:Ss w ad l) {i:Nat} (hi:i<l.length):∃b off x,ad=some ⟨b,off,none⟩∧b<w.heap.size∧l[i]?=some x∧l[i]=x∧w.cell? ⟨b,off+i*2,none⟩=some (.int .i64 x.t)∧w.cell? ⟨b,off+i*2+1,none⟩=some (.int .u64 (x.v:Int))∧OkS x:=by
 obtain ⟨b,off,e,hlt,hc⟩:=h.at' (by intro h0;rw [h0] at hi;simp at hi)
 have hx:l[i]?=some l[i]:=by simp [hi]
 exact ⟨b,off,l[i],e,hlt,hx,rfl,(hc i _ hx).1,(hc i _ hx).2,h.sz _ (by simp)⟩
def encS (x:Sm):List Value:=[.int .i64 x.t,.int .u64 (x.v:Int)]
def cS (l:List Sm):List Value:=l.flatMap encS
theorem cS_cons (x:Sm) (l:List Sm):cS (x :: l)=.int .i64 x.t :: .int .u64 (x.v:Int) :: cS l:=by simp [cS,encS]
theorem za9:∀l:List Sm,(cS l).length=l.length*2
 |[]=>rfl
 |x :: t=>by rw [cS_cons];simp only [List.length_cons];rw [za9 t];omega
theorem zbs (l m:List Sm):cS (l++m)=cS l++cS m:=by simp [cS]
theorem zfc:∀(l:List Sm) (i:Nat) (x:Sm),l[i]?=some x→(cS l)[i*2]?=some (.int .i64 x.t)∧(cS l)[i*2+1]?=some (.int .u64 (x.v:Int))
 |[],i,x,h=>by simp at h
 |y :: t,0,x,h=>by simp at h;subst h;rw [cS_cons];exact ⟨rfl,rfl⟩
 |y :: t,i+1,x,h=>by
  rw [cS_cons,show (i+1)*2=i*2+1+1 by omega,show i*2+1+1+1=(i*2+1)+1+1 by omega]
  simp only [List.getElem?_cons_succ] at h ⊢
  exact zfc t i x h
theorem cS_one (l:List Sm):∀u∈cS l,u.oneCell'=true:=by
 intro u hu
 obtain ⟨x,_,hx⟩:=List.mem_flatMap.1 hu
 simp [encS] at hx
 rcases hx with rfl|rfl <;> rfl
def Bd (l:List Sm):Prop:=∀x∈l,OkS x
theorem owns_lenS {w:World} {base:Nat} {v:Value} {n:Nat} {l:List Sm} (h:w.ownsRow base 53 2 v n (cS l)):l.length=n:=by
 have:=h.1;rw [za9] at this;omega
theorem za3 {w:World} {base:Nat} {e s:Nat} {v:Value} {n:Nat} {xs:List Value} (h:w.ownsRow base e s v n xs):∃ad c,v=.slice ad n c∧(ad=none→n=0∧c=0)∧(∀x,ad=some x→x.off=0∧x.spot=none)∧n≤c∧c≤maxLen:=by
 rcases h.2 with ⟨rfl,rfl⟩|⟨g,cap,cur,rfl,_,_,h1,h2,_⟩
 · exact ⟨none,0,rfl,fun _=>⟨rfl,rfl⟩,(fun x e=>by cases e),Nat.le_refl _,by unfold maxLen;omega⟩
 exact ⟨_,cap,rfl,(fun e=>by cases e),(fun x e=>by cases e;exact ⟨rfl,rfl⟩),h1,h2⟩
theorem zan {w:World} {base:Nat} {ad:Option Addr} {n m c:Nat} {l:List Sm} (h:w.ownsRow base 53 2 (.slice ad n c) m (cS l)) (hz:Bd l):Ss w ad l:=by
 refine ⟨hz,fun h0=>?_⟩
 have hl:=owns_lenS h
 rcases h.2 with ⟨_,h1⟩|⟨g,cap,cur,e,_,hg,_⟩
 · rw [h1] at hl;exact absurd (List.eq_nil_of_length_eq_zero hl) h0
 injection e with e1 e2 e3
 subst e1
 refine ⟨g,0,rfl,(Array.getElem?_eq_some_iff.1 hg).1,fun i x hx=>?_⟩
 have hc:=zfc l i x hx
 have k0:=h.cells (g:=g) rfl _ _ hc.1
 have k1:=h.cells (g:=g) rfl _ _ hc.2
 rw [Addr.add_lit] at k0 k1
 simp only [Nat.zero_add] at k0 k1 ⊢
 exact ⟨k0,k1⟩
theorem Ss.cells {w:World} {b off:Nat} {l:List Sm} (h:Ss w (some ⟨b,off,none⟩) l):∀j u,(cS l)[j]?=some u→w.cell? ((⟨b,off,none⟩:Addr).add j)=some u:=by
 intro j u hu
 have hj:j<l.length*2:=by rw [←za9];exact (List.getElem?_eq_some_iff.1 hu).1
 obtain ⟨b',off',e,_,hc⟩:=h.at' (by intro e;rw [e] at hj;simp at hj)
 injection e with e;injection e with e1 e2;subst e1;subst e2
 have hx:l[j / 2]?=some (l[j / 2]'(by omega)):=by simp
 have k:=hc _ _ hx
 have g:=zfc l _ _ hx
 rw [Addr.add_lit]
 rcases Nat.mod_two_eq_zero_or_one j with hm|hm
 · have e:j=j / 2*2:=by omega
   rw [←e] at k g
   rw [hu] at g
   rw [k.1];exact g.1.symm
 have e:j=j / 2*2+1:=by omega
 have e2:off+j / 2*2+1=off+j:=by omega
 rw [e2] at k
 rw [←e,hu] at g
 rw [k.2];exact g.2.symm
theorem Ss.cells' {w:World} {x:Addr} {l:List Sm} (h:Ss w (some x) l):∀j u,(cS l)[j]?=some u→w.cell? (x.add j)=some u:=by
 intro j u hu
 by_cases h0:l=[]
 · rw [h0] at hu;simp [cS] at hu
 obtain ⟨b,off,e,_⟩:=h.at' h0
 injection e with e
 subst e
 exact h.cells j u hu
theorem run_push2 {P:Program} (w:World) (t ty e:TypeId) (i:TypeInfo) (z:Value) (bytes:Nat) (ht:P.underlying t=some (.slice e)) (hi:P.info? e=some i) (hz:i.zero=some z)
 (hsize:i.size=2) (hby:i.bytes=bytes) (hzs:z.cells.size=2) (base:Nat) (v:Value) (n:Nat) (xs:List Value) (hown:w.ownsRow base e 2 v n xs)
 (ad:Addr) (news:List Value) (hl:news.length=2) (hnews:∀j u,news[j]?=some u→w.cell? (ad.add j)=some u) (hone:∀x∈news,x.oneCell'=true) (h63:n+1≤maxLen) (hbytes:(n+1)*bytes≤140737488355328) (hbase:base≤w.heap.size):
 ∃g' c' w',(Builtin.append_ #[t,t] ty #[v,.slice (some ad) 1 1]).run P w=.ok (.slice (some ⟨g',0,none⟩) (n+1) c') w'∧
  w'.ownsRow base e 2 (.slice (some ⟨g',0,none⟩) (n+1) c') (n+1) (xs++news)∧Pushed w w' v g':=by
 rcases hown.2 with ⟨rfl,rfl⟩|⟨g,cap,cur,rfl,hbg,hg,hnc,hcm,hcs,htake⟩
 · have hxs:xs=[]:=List.eq_nil_of_length_eq_zero (by simpa using hown.1)
   subst hxs
   obtain ⟨v',w',hr,ho,hgr,hiff⟩:=run_append_own (P:=P) w w.heap.size t ty e i z 2 bytes ht hi hz hsize hby hzs (by omega) (.slice none 0 0) 0 [] (World.ownsRow_nil _ _ _ _) ad 1 1 news (by omega) hnews hone h63 hbytes (Nat.le_refl _)
   rcases ho.2 with ⟨_,h0⟩|⟨g',c',cur',rfl,hb',hh,hrest⟩
   · omega
   exact ⟨g',c',w',by simpa using hr,⟨by simp [hl],.inr ⟨g',c',cur',rfl,by omega,hh,by simpa using hrest⟩⟩,.inr ⟨hb',by simpa [Value.ownBlock] using hgr⟩⟩
 by_cases hroom:n+1≤cap
 · obtain ⟨w',hr,ho,hgr⟩:=run_append_fits (P:=P) w base t ty e i 2 ht hi hsize g n cap xs hown ad 1 1 news (by omega) hnews hone hroom
   exact ⟨g,cap,w',hr,ho,.inl ⟨rfl,hgr⟩⟩
 obtain ⟨v',w',hr,ho,hgr⟩:=run_append_arg_grows (P:=P) w t ty e i z 2 bytes ht hi hz hsize hby hzs (by omega) ⟨g,0,none⟩ n cap xs hown.1 (hown.cells rfl) ad 1 1 news (by omega) hnews (by omega) h63 hbytes
 rcases ho.2 with ⟨_,h0⟩|⟨g',c',cur',rfl,hb',hh,hrest⟩
 · omega
 exact ⟨g',c',w',hr,⟨by simp [hown.1,hl];omega,.inr ⟨g',c',cur',rfl,by omega,hh,hrest⟩⟩,.inr ⟨hb',hgr⟩⟩
theorem wp_push2 {P:Program} (w:World) {o:Oper} {a:Act} {K:Act→World→Prop} {Q:Exit→Act→World→Prop} (s x:Operand) (t:TypeId)
 (ho:o.op=.call { callee:=.builtin .append,args:=#[s,x],argTypes:=#[t,t] }) (e:TypeId) (i:TypeInfo) (z:Value) (bytes:Nat) (ht:P.underlying t=some (.slice e)) (hi:P.info? e=some i) (hz:i.zero=some z)
 (hsize:i.size=2) (hby:i.bytes=bytes) (hzs:z.cells.size=2) (base:Nat) (v:Value) (n:Nat) (xs:List Value) (hs:a.eval s=v) (hown:w.ownsRow base e 2 v n xs)
 (ad:Addr) (news:List Value) (hx:a.eval x=.slice (some ad) 1 1) (hl:news.length=2) (hnews:∀j u,news[j]?=some u→w.cell? (ad.add j)=some u) (hone:∀x∈news,x.oneCell'=true) (h63:n+1≤maxLen) (hbytes:(n+1)*bytes≤140737488355328) (hbase:base≤w.heap.size)
 (h:∀g' c' w',w'.ownsRow base e 2 (.slice (some ⟨g',0,none⟩) (n+1) c') (n+1) (xs++news)→Pushed w w' v g'→K (a.put o.dst (.slice (some ⟨g',0,none⟩) (n+1) c')) w'):o.wp P a w K Q:=by
 obtain ⟨g',c',w',hr,h2,h3⟩:=run_push2 (P:=P) w t o.type e i z bytes ht hi hz hsize hby hzs base v n xs hown ad news hl hnews hone h63 hbytes hbase
 unfold Oper.wp
 simp [execOp,ho,resolve,invoke,builtin,hs,hx,hr,Result.andThen]
 exact h g' c' w' h2 h3
theorem wpList_push2 {P:Program} (w:World) {ops:Array Oper} {rest:List Oper} {o:Oper} {a:Act} {Q:Exit→Act→World→Prop} (hgd:o.guard=none) (s x:Operand) (t:TypeId)
 (ho:o.op=.call { callee:=.builtin .append,args:=#[s,x],argTypes:=#[t,t] }) (e:TypeId) (i:TypeInfo) (z:Value) (bytes:Nat) (ht:P.underlying t=some (.slice e)) (hi:P.info? e=some i) (hz:i.zero=some z)
 (hsize:i.size=2) (hby:i.bytes=bytes) (hzs:z.cells.size=2) (base:Nat) (v:Value) (n:Nat) (xs:List Value) (hs:a.eval s=v) (hown:w.ownsRow base e 2 v n xs)
 (ad:Addr) (news:List Value) (hx:a.eval x=.slice (some ad) 1 1) (hl:news.length=2) (hnews:∀j u,news[j]?=some u→w.cell? (ad.add j)=some u) (hone:∀x∈news,x.oneCell'=true) (h63:n+1≤maxLen) (hbytes:(n+1)*bytes≤140737488355328) (hbase:base≤w.heap.size)
 (h:∀g' c' w',w'.ownsRow base e 2 (.slice (some ⟨g',0,none⟩) (n+1) c') (n+1) (xs++news)→Pushed w w' v g'→wpList P ops Q rest (a.put o.dst (.slice (some ⟨g',0,none⟩) (n+1) c')) w'):wpList P ops Q (o :: rest) a w:=
 wpList_plain hgd fun _ hK=>wp_push2 w s x t ho e i z bytes ht hi hz hsize hby hzs base v n xs hs hown ad news hx hl hnews hone h63 hbytes hbase fun g' c' w' h2 h3=>hK _ _ (h g' c' w' h2 h3)
theorem zfp {P:Program} (w:World) {ops:Array Oper} {o:Oper} {a:Act} {K:Act→World→Prop} {Q:Exit→Act→World→Prop} {E:Prop} (hgd:o.guard=none) (s x:Operand) (t:TypeId)
 (ho:o.op=.call { callee:=.builtin .append,args:=#[s,x],argTypes:=#[t,t] }) (e:TypeId) (i:TypeInfo) (z:Value) (bytes:Nat) (ht:P.underlying t=some (.slice e)) (hi:P.info? e=some i) (hz:i.zero=some z)
 (hsize:i.size=2) (hby:i.bytes=bytes) (hzs:z.cells.size=2) (base:Nat) (v:Value) (n:Nat) (xs:List Value) (hs:a.eval s=v) (hown:w.ownsRow base e 2 v n xs)
 (ad:Addr) (news:List Value) (hx:a.eval x=.slice (some ad) 1 1) (hl:news.length=2) (hnews:∀j u,news[j]?=some u→w.cell? (ad.add j)=some u) (hone:∀x∈news,x.oneCell'=true) (h63:n+1≤maxLen) (hbytes:(n+1)*bytes≤140737488355328) (hbase:base≤w.heap.size)
 (h:∀g' c' w',w'.ownsRow base e 2 (.slice (some ⟨g',0,none⟩) (n+1) c') (n+1) (xs++news)→Pushed w w' v g'→K (a.put o.dst (.slice (some ⟨g',0,none⟩) (n+1) c')) w'):
 if Region.wanted o (yielded ops a.tmps)=true then Oper.wp P o a w K Q else E:=by
 have hw:Region.wanted o (yielded ops a.tmps)=true:=by simp [Region.wanted,hgd]
 rw [if_pos hw]
 exact wp_push2 w s x t ho e i z bytes ht hi hz hsize hby hzs base v n xs hs hown ad news hx hl hnews hone h63 hbytes hbase h
theorem ss_blk {w:World} {g:Nat} {l:List Sm} (h:Blk w g 53 (cS l)) (hz:Bd l):Ss w (some ⟨g,0,none⟩) l:=by
 refine ⟨hz,fun h0=>⟨g,0,rfl,h.lt,fun i x hx=>?_⟩⟩
 have hc:=zfc l i x hx
 rw [Nat.zero_add,h.cell,h.cell]
 exact hc
theorem owl {w w':World} {b e s:Nat} {v:Value} {n:Nat} {xs:List Value} (h:w.ownsRow b e s v n xs) (hb:Below w.heap.size w w'):w'.ownsRow b e s v n xs:=(Chg.of_below (F:=fun _=>False) hb).owns h (fun _ _ h=>h)
theorem zbq {w:World} {b b':Nat} {e sz:Nat} {v:Value} {n:Nat} {xs:List Value} (h:w.ownsRow b e sz v n xs) (hb:∀g,v.ownBlock=some g→b'≤g):w.ownsRow b' e sz v n xs:=by
 refine ⟨h.1,?_⟩
 rcases h.2 with h0|⟨g,cap,cur,rfl,_,r⟩
 · exact .inl h0
 exact .inr ⟨g,cap,cur,rfl,hb g rfl,r⟩
theorem zb1 (w:World) {ops:Array Oper} {rest:List Oper} {o:Oper} {a:Act} {Q:Exit→Act→World→Prop} (hgd:o.guard=none) (s x:Operand)
 (ho:o.op=.call { callee:=.builtin .append,args:=#[s,x],argTypes:=#[46,46] }) (base:Nat) (v:Value) (n:Nat) (xs:List Sm) (hs:a.eval s=v) (hown:w.ownsRow base 53 2 v n (cS xs))
 (ad:Option Addr) (m c:Nat) (l:List Sm) (hx:a.eval x=.slice ad m c) (hL:Ss w ad l) (hm:l.length=m) (hno:ad=none→l=[]∧c=0) (k:Nat) (hk:n+m=k) (hb:k*16≤140737488355328) (hbase:base≤w.heap.size)
 (h:∀a' c' w',w'.ownsRow base 53 2 (.slice a' k c') k (cS (xs++l))→Below base w w'→wpList Tryz.prog ops Q rest (a.put o.dst (.slice a' k c')) w'):wpList Tryz.prog ops Q (o :: rest) a w:=by
 subst hk
 obtain ⟨i0,hi0,hz0,hz1,hz2⟩:=info_parts info32
 cases ad with
 |none=>
  obtain ⟨rfl,rfl⟩:=hno rfl
  obtain rfl:m=0:=hm.symm
  refine wpList_append_own_none hgd s x 46 ho base 53 i0 2 Tryz.underlying46 hi0 v n _ hs hown hx ?_
  obtain ⟨a',c',rfl,_⟩:=za3 hown
  exact h a' c' w (by simpa using hown) (Below.refl _ _)
 |some ad=>
  refine wpList_append_own w hgd s x 46 ho base 53 i0 (.agg #[.int .i64 0,.int .u64 0]) 2 16 Tryz.underlying46 hi0 hz0 hz1 hz2 rfl (by decide) v n (cS xs) hs hown ad m c (cS l) hx (by rw [za9,hm]) hL.cells' (cS_one l) (by unfold maxLen;omega) hb hbase ?_
  intro v' w' h1 h2 h3
  obtain ⟨a',c',rfl,_⟩:=za3 h1
  exact h a' c' w' (by rw [zbs];exact h1) ((Below.refl _ _).grown h2 hbase (fun k hk=>(hown.lt k hk).1))
theorem zbo (w:World) {ops:Array Oper} {rest:List Oper} {o:Oper} {a:Act} {Q:Exit→Act→World→Prop} (hgd:o.guard=none) (s x:Operand)
 (ho:o.op=.call { callee:=.builtin .append,args:=#[s,x],argTypes:=#[46,46] }) (base:Nat) (v:Value) (n:Nat) (xs:List Sm) (hs:a.eval s=v) (w0:World) (hown:w0.ownsRow base 53 2 v n (cS xs)) (y:Sm)
 (hw:w=w0.alloc (.cells #[.int .i64 y.t,.int .u64 (y.v:Int)] 53)) (hx:a.eval x=.slice (some ⟨w0.heap.size,0,none⟩) 1 1) (hn:n≤1000000000) (hbase:base≤w0.heap.size)
 (h:∀g' c' w',w'.ownsRow base 53 2 (.slice (some ⟨g',0,none⟩) (n+1) c') (n+1) (cS (xs++[y]))→Below base w0 w'→Chg (fun i=>v.ownBlock=some i) w0 w'→wpList Tryz.prog ops Q rest (a.put o.dst (.slice (some ⟨g',0,none⟩) (n+1) c')) w'):wpList Tryz.prog ops Q (o :: rest) a w:=by
 subst hw
 obtain ⟨i0,hi0,hz0,hz1,hz2⟩:=info_parts info32
 refine wpList_push2 _ hgd s x 46 ho 53 i0 (.agg #[.int .i64 0,.int .u64 0]) 16 Tryz.underlying46 hi0 hz0 hz1 hz2 rfl base v n (cS xs) hs (hown.alloc _) ⟨w0.heap.size,0,none⟩ [.int .i64 y.t,.int .u64 (y.v:Int)] hx rfl (fun j u hu=>by
  have:=(Blk.new w0 53 [.int .i64 y.t,.int .u64 (y.v:Int)]).cell (0+j)
  rw [Addr.add_lit,this,Nat.zero_add]
  exact hu) (by intro u hu;simp at hu;rcases hu with rfl|rfl <;> rfl) (by unfold maxLen;omega) (by omega) (by simp;omega) ?_
 intro g' c' w' ho' hp'
 exact h g' c' w' (by rw [zbs];exact ho') (hp'.chg.1.below hbase (fun q hq=>(hown.lt q hq).1)) hp'.chg.1
theorem nm_ub {l:List Int} {t n V:Nat} (h:Nm V n (fun i=>bt l (t+i))) (hn:t+n≤8*l.length):V=vl (((ub l).drop t).take n):=by
 have e:low V n=((ub l).drop t).take n:=by
  refine zdr (by rw [zaq,List.length_take,List.length_drop,zd7];omega) (fun i hi=>?_)
  rw [zaq] at hi
  have h2:=h (n - 1 - i)
  rw [zcv,decide_eq_true hi,Bool.true_and,h2,decide_eq_true (by omega),Bool.true_and]
  have h3:=ub_at l (t+i)
  simp only [List.getD_eq_getElem?_getD] at h3 ⊢
  rw [List.getElem?_take,if_pos hi,List.getElem?_drop,h3]
  congr 1
  omega
 have h1:=h.lt
 rw [←e,zed h1]
def tl:List Sm→Tr
 |[]=>⟨0,0,0⟩
 |s :: t=>trE (tr0 s) t
theorem ze1 (l:List Sm) (s:Sm):rowB (l++[s])=rowB l++onB l.length (tl l) s:=by
 cases l with
 |nil=>simp [rowB,onB,moB]
 |cons x t=>rw [rowB_more];unfold onB tl;rw [if_neg (by simp)]
theorem tl_on (l:List Sm) (s:Sm):tl (l++[s])=onT l.length (tl l) s:=by
 cases l with
 |nil=>simp [tl,onT,trE]
 |cons x t=>
  unfold onT
  rw [if_neg (by simp)]
  show trE (tr0 x) (t++[s])=_
  rw [zfn]
  rfl
theorem trE_ok:∀(l:List Sm) (a:Tr),Ok a→(∀x∈l,OkS x)→Ok (trE a l)
 |[],a,ha,_=>ha
 |s :: t,a,ha,h=>trE_ok t _ (next_ok (h s (by simp))) (fun x hx=>h x (by simp [hx]))
theorem tl_ok {l:List Sm} (h:∀x∈l,OkS x):Ok (tl l):=by
 cases l with
 |nil=>exact ⟨by show I64 0;unfold I64;omega,by show (0:Nat)<_;omega,by show I64 0;unfold I64;omega⟩
 |cons s t=>exact trE_ok t _ (tr0_ok (h s (by simp))) (fun x hx=>h x (by simp [hx]))
theorem zbl {l:List Sm} (h:l≠[]):(encC l).length=Q.grp l.length+1+((rowB l).length+7) / 8:=by
 unfold encC
 rw [if_neg h,List.length_append,Q.enc_length,zc9]
theorem room_enc {l:List Sm} (h:l≠[]) (most:Int):room most l.length (rowB l)↔((encC l).length:Int)≤most:=by
 unfold room
 rw [zbl h]
theorem room_on (l:List Sm) (s:Sm) (most:Int):room most (l.length+1) (rowB l++onB l.length (tl l) s)↔((encC (l++[s])).length:Int)≤most:=by
 rw [←room_enc (by simp),ze1]
 simp
theorem ze7:∀f m n,m≤n→Q.grpF f m≤Q.grpF f n
 |0,m,n,h=>Nat.le_refl _
 |f+1,m,n,h=>by
  rw [Q.grpF,Q.grpF]
  have:=ze7 f (m / 128) (n / 128) (by omega)
  split <;> split <;> omega
theorem grpF_one:∀f n,n<128→Q.grpF f n=0
 |0,_,_=>rfl
 |f+1,n,h=>by rw [Q.grpF,if_pos h]
theorem grpF_next:∀f n,Q.grpF f (n+1)≤Q.grpF f n+1
 |0,n=>by simp [Q.grpF]
 |f+1,n=>by
  rw [Q.grpF,Q.grpF]
  have h1:=grpF_next f (n / 128)
  have h2:=ze7 f ((n+1) / 128) (n / 128+1) (by omega)
  have h3:=grpF_one f ((n+1) / 128)
  split <;> split
  · omega
  · omega
  · have:=h3 (by omega);omega
  omega
theorem encC_mono {l:List Sm} {s:Sm} (hl:∀x∈l,OkS x) (hs:OkS s):(encC l).length≤(encC (l++[s])).length∧(encC (l++[s])).length≤(encC l).length+20:=by
 have h2:=onB_len (n:=l.length) (tl_ok hl) hs
 rw [zbl (l:=l++[s]) (by simp),ze1]
 simp only [List.length_append,List.length_cons,List.length_nil,Nat.zero_add]
 by_cases h:l=[]
 · subst h
   have:(onB 0 (tl []) s).length=128:=by simp [onB,fiB,zaq]
   simp only [rowB,List.length_nil,this,encC,if_pos]
   rw [Q.grp_small _ (by omega)]
   omega
 rw [zbl h]
 have h3:=grpF_next 9 l.length
 have h4:=ze7 9 l.length (l.length+1) (by omega)
 unfold Q.grp
 omega
theorem zep (s:Sm):(encC [s]).length=17:=by
 rw [zbl (by simp)]
 have:(rowB [s]).length=128:=by simp [rowB,moB,fiB,zaq]
 rw [this,List.length_singleton,Q.grp_small _ (by omega)]
theorem encC_pre {l m:List Sm} (h:∀x∈l++m,OkS x):(encC l).length≤(encC (l++m)).length:=by
 induction m generalizing l with
 |nil=>simp
 |cons s t ih=>
  have h1:=encC_mono (l:=l) (s:=s) (fun x hx=>h x (by simp [hx])) (h s (by simp))
  have h2:=ih (l:=l++[s]) (fun x hx=>h x (by simpa using hx))
  simp only [List.append_assoc,List.singleton_append] at h2
  omega
theorem rev_ind {P:List Sm→Prop} (h0:P []) (h1:∀l s,P l→P (l++[s])) (l:List Sm):P l:=by
 have h:∀l:List Sm,P l.reverse:=by
  intro l
  induction l with
  |nil=>exact h0
  |cons x t ih=>rw [List.reverse_cons];exact h1 _ _ ih
 have:=h l.reverse
 rwa [List.reverse_reverse] at this
theorem encC_le:∀{l:List Sm},(∀x∈l,OkS x)→(encC l).length≤20*l.length:=by
 intro l
 refine rev_ind (P:=fun l=>(∀x∈l,OkS x)→(encC l).length≤20*l.length) ?_ ?_ l
 · intro _;simp [encC]
 intro l s ih h
 have h1:=encC_mono (l:=l) (s:=s) (fun x hx=>h x (by simp [hx])) (h s (by simp))
 have h2:=ih (fun x hx=>h x (by simp [hx]))
 simp only [List.length_append,List.length_singleton]
 omega
theorem zf5:∀{l:List Sm},(∀x∈l,OkS x)→(rowB l).length≤145*l.length:=by
 intro l
 refine rev_ind (P:=fun l=>(∀x∈l,OkS x)→(rowB l).length≤145*l.length) ?_ ?_ l
 · intro _;simp [rowB]
 intro l s ih h
 have h1:=onB_len (n:=l.length) (tl_ok (l:=l) (fun x hx=>h x (by simp [hx]))) (h s (by simp))
 have h2:=ih (fun x hx=>h x (by simp [hx]))
 rw [ze1]
 simp only [List.length_append,List.length_singleton]
 omega
theorem drB_ge (d:Int):1≤(drB d).length:=by
 unfold drB
 repeat' split
 all_goals simp
theorem flB_ge (x:Nat):1≤(flB x).length:=by
 unfold flB
 split <;> simp
theorem moB_ge:∀(l:List Sm) (a:Tr),2*l.length≤(moB a l).length
 |[],a=>by simp
 |s :: t,a=>by
  have h1:=moB_ge t (a.next s)
  have h2:=drB_ge (a.drift s)
  have h3:=flB_ge (a.flips s)
  rw [moB]
  simp only [List.length_append,List.length_cons]
  omega
structure XS (w:World) (r p:Nat) (B:List Bool) (wg:Bool):Prop where
 blk:Blk w r 182 [.pointer (some ⟨p,0,none⟩),.bool wg]
 rs:∃l t,RS w p l t∧l.length≤100000000∧B=(ub l).drop t
 lt:p<r
def F2 (r p:Nat):Nat→Prop:=fun i=>i=r∨i=p
theorem XS.later {w w':World} {r p:Nat} {B:List Bool} {wg:Bool} (h:XS w r p B wg) (hb:Below w.heap.size w w'):XS w' r p B wg:=by
 obtain ⟨l,t,h1,h2,h3⟩:=h.rs
 exact ⟨h.blk.later hb,⟨l,t,h1.same (Chg.of_below hb),h2,h3⟩,h.lt⟩
theorem XS.len {w:World} {r p:Nat} {B:List Bool} {wg:Bool} (h:XS w r p B wg):B.length≤800000000:=by
 obtain ⟨l,t,h1,h2,h3⟩:=h.rs
 rw [h3,List.length_drop,zd7]
 omega
theorem rs_ne {w:World} {p t g:Nat} {l:List Int} {ty:TypeId} {vs:List Value} (h:RS w p l t) (hB:Blk w g ty vs) (ht:ty≠201):g≠p:=by
 obtain ⟨_,ad,c,h1,_⟩:=h
 rintro rfl
 have:=h1.symm.trans hB
 injection this with this
 injection this with _ h2 _
 exact ht h2.symm
theorem sl_ne {w:World} {ad:Option Addr} {l:List Int} {n g:Nat} {ty:TypeId} {vs:List Value} {x:Addr} (h:Sl w ad n l) (hB:Blk w g ty vs) (hu:∀v∈vs,∀y,v≠.int .u8 y) (hx:ad=some x) (h0:0<n):x.block≠g:=by
 obtain ⟨b,off,e,hlt,hc⟩:=h.at h0
 rw [e] at hx
 injection hx with hx
 subst hx
 rintro rfl
 have h1:=hc 0 h0
 have h2:=hB.cell (off+0)
 rw [h1] at h2
 exact hu _ (List.mem_of_getElem? h2.symm) _ rfl
theorem XS.bel {w w':World} {r p b:Nat} {B:List Bool} {wg:Bool} (h:XS w r p B wg) (hr:r<b) (hb:Below b w w'):XS w' r p B wg:=by
 obtain ⟨l,t,⟨k1,ad,c,k2,k3,k4⟩,h2,h3⟩:=h.rs
 have hp:=h.lt
 have hc:Chg (fun i=>b≤i) w w':=⟨hb.os,hb.tape,hb.output,hb.size,fun i hi hn=>hb.block i (by omega)⟩
 exact ⟨hc.blk h.blk (by omega),⟨l,t,⟨k1,ad,c,hc.blk k2 (by omega),hc.sl k3 (fun x hx h0 e=>by have:=k4 x hx h0;omega),k4⟩,h2,h3⟩,h.lt⟩
theorem XS.wrong {w:World} {r p:Nat} {B:List Bool} {wg:Bool} (h:XS w r p B wg):XS (w.setCell ⟨r,1,none⟩ (.bool true)) r p B true:=by
 obtain ⟨l,t,h1,h2,h3⟩:=h.rs
 have hne:=rs_ne h1 h.blk (by decide)
 refine ⟨by simpa using h.blk.set 1 (.bool true),⟨l,t,?_,h2,h3⟩,h.lt⟩
 obtain ⟨k1,ad,c,k2,k3,k4⟩:=h1
 have hc:=zbg w r 1 (.bool true)
 exact ⟨k1,ad,c,hc.blk k2 (fun e=>hne e.symm),hc.sl k3 (fun x hx h0 e=>sl_ne k3 h.blk (by intro v hv y;simp at hv;rcases hv with rfl|rfl <;> simp) hx h0 e),k4⟩
def tkV (n:Nat) (B:List Bool):Nat:=if n≤B.length then vl (B.take n) else 0
def tkB (n:Nat) (B:List Bool):List Bool:=if n≤B.length then B.drop n else B
def tkW (n:Nat) (B:List Bool) (wg:Bool):Bool:=if n≤B.length then wg else true
theorem zd8 {n:Nat} {B:List Bool} (h:n≤64):tkV n B<18446744073709551616:=by
 unfold tkV
 split
 · have:=zct (B:=B) (k:=n)
   have h2:2 ^ n≤2 ^ 64:=Nat.pow_le_pow_right (by omega) h
   omega
 omega
theorem takeP (w:World) (r p:Nat) (B:List Bool) (wg:Bool) (n:Nat) (h:XS w r p B wg) (hn:n≤64):
 Calls Tryz.prog 130 #[.pointer (some ⟨r,0,none⟩),.int .i64 (n:Int)] w fun e w'=>e=.returned (.int .u64 (tkV n B:Int))∧XS w' r p (tkB n B) (tkW n B wg)∧Chg (F2 r p) w w':=by
 obtain ⟨l,t,h1,h2,h3⟩:=h.rs
 have ht:=h1.1
 have hlen:B.length=8*l.length - t:=by rw [h3,List.length_drop,zd7]
 have c0:=h.blk.cell 0
 simp at c0
 have hne:=rs_ne h1 h.blk (by decide)
 have HX:=zaa h
 have HR:=zaa h1
 have H3:=zaa h3
 have HLEN:=zaa hlen
 clear h h1 h3 hlen
 go_enter Tryz.func130,Tryz.ntmps130
 go_wp2_with fail
 by_cases hb:n≤B.length
 · refine (get_any p t l (n:Int) w HR.out (by omega) (by omega) (by omega) (by have:=HLEN.out;omega)).mono ?_
   rintro e w1 ⟨V,rfl,hV,hR,hC⟩
   rw [Int.toNat_natCast] at hV hR
   have hVe:=nm_ub hV (by have:=HLEN.out;omega)
   have HXX:=zaa (show XS w1 r p (tkB n B) (tkW n B wg) from ⟨by unfold tkW;rw [if_pos hb];exact hC.blk HX.out.blk hne,⟨l,t+n,hR,h2,by unfold tkB;rw [if_pos hb,H3.out,List.drop_drop]⟩,HX.out.lt⟩)
   have HV:=zaa (show V=tkV n B by unfold tkV;rw [if_pos hb,hVe,H3.out])
   have HC:=zaa (hC.mono (G:=F2 r p) (fun i _ hi=>.inr hi))
   clear hV hR hVe hC
   go_wp2
   go_ret
   exact ⟨by rw [HV.out];rfl,HXX.out,HC.out⟩
 refine (get_bad p t l (n:Int) w HR.out (by omega) (by have:=HLEN.out;omega)).mono ?_
 rintro e w1 ⟨rfl,hR,hC⟩
 have X1:XS w1 r p B wg:=⟨hC.blk HX.out.blk (fun e=>e),⟨l,t,hR,h2,H3.out⟩,HX.out.lt⟩
 have f1:=X1.blk.frozen 1
 have d1:=X1.blk.cell 1
 simp at d1
 have HX1:=zaa X1
 have HC:=zaa (hC.mono (G:=F2 r p) (fun i _ hi=>hi.elim))
 clear X1 hR hC
 go_wp2_with fail
 first|go_region|skip
 go_wp2
 go_ret
 refine ⟨by unfold tkV;rw [if_neg hb];rfl,?_,?_⟩
 · unfold tkB tkW
   rw [if_neg hb,if_neg hb]
   exact HX1.out.wrong
 exact HC.out.trans ((zbg w1 r 1 (.bool true)).mono (G:=F2 r p) (fun i _ hi=>.inl hi)) (fun i _ hi=>hi)
theorem sg_i64 {V w:Nat} (hw:w=0∧V=0∨(w=7∨w=9∨w=12∨w=64)∧V<2 ^ w):I64 (sg V w):=by
 rcases hw with ⟨rfl,rfl⟩|⟨h1,h2⟩
 · unfold I64 sg wr;simp
 exact (un_sg h2 h1).2.1
theorem zb4 {n:Nat} {B:List Bool}:tkV n B<2 ^ n:=by
 unfold tkV
 split
 · exact zct
 exact Nat.two_pow_pos _
def bdD (w:Nat) (short:Int) (B:List Bool):Bool:=decide (0≤short) && decide (fit (sg (tkV w B) w) short.toNat)
theorem zdw (w:World) (r p:Nat) (B:List Bool) (wg:Bool) (n:Nat) (short:Int) (h:XS w r p B wg) (hn:n=0∨n=7∨n=9∨n=12∨n=64) (hs:short= -1∨short=0∨short=7∨short=9∨short=12):
 Calls Tryz.prog 151 #[.pointer (some ⟨r,0,none⟩),.int .i64 (n:Int),.int .i64 short] w fun e w'=>e=.returned (.int .i64 (sg (tkV n B) n))∧XS w' r p (tkB n B) (tkW n B wg || bdD n short B)∧Chg (F2 r p) w w':=by
 have HT:=zaa (takeP w r p B wg n h (by omega))
 have hV:=zd8 (n:=n) (B:=B) (by omega)
 have hi:I64 (sg (tkV n B) n):=sg_i64 (by
  rcases hn with rfl|hn
  · exact .inl ⟨rfl,by have:=zb4 (n:=0) (B:=B);omega⟩
  exact .inr ⟨hn,zb4⟩)
 have HS:=zaa (fun w1=>signedP (tkV n B) n w1 hV hn)
 have HF:=zaa (fun w1 (k:Nat) (hk:k=0∨k=7∨k=9∨k=12)=>fitsP (sg (tkV n B) n) k w1 hi hk)
 obtain ⟨b,hb⟩:∃b,bdD n short B=b:=⟨_,rfl⟩
 rw [hb]
 have HB:=zaa hb
 unfold bdD at HB
 have hi':=hi
 unfold I64 at hi'
 generalize sg (tkV n B) n=d at*
 generalize tkV n B=V at*
 generalize tkB n B=B' at*
 generalize tkW n B wg=wg' at*
 clear h hb hi
 go_enter Tryz.func151,Tryz.ntmps151
 go_wp2_with fail
 refine HT.out.mono ?_
 rintro e w1 ⟨rfl,h1,hc1⟩
 have H1:=zaa h1
 have HC1:=zaa hc1
 clear h1 hc1
 go_wp2_with fail
 refine (HS.out w1).mono ?_
 rintro e w2 ⟨rfl,rfl⟩
 have f1:=H1.out.blk.frozen 1
 have d1:=H1.out.blk.cell 1
 simp at d1
 by_cases hs0:short= -1
 · subst hs0
   have hb0:b=false:=by rw [←HB.out];rfl
   subst hb0
   go_wp2
   go_ret
   exact ⟨rfl,by rw [Bool.or_false];exact H1.out,HC1.out⟩
 obtain ⟨k,hk⟩:∃k:Nat,short=(k:Int):=⟨short.toNat,by omega⟩
 subst hk
 have hk4:k=0∨k=7∨k=9∨k=12:=by omega
 have hbf:b=decide (fit d k):=by rw [←HB.out];simp
 go_wp2_with fail
 refine (HF.out w2 k hk4).mono ?_
 rintro e w3 ⟨rfl,rfl⟩
 rw [←hbf]
 clear hbf HB
 cases b with
 |false=>
  go_wp2
  go_ret
  exact ⟨rfl,by rw [Bool.or_false];exact H1.out,HC1.out⟩
 |true=>
  go_wp2_with fail
  first|go_region|skip
  go_wp2
  go_ret
  refine ⟨rfl,by rw [Bool.or_true];exact H1.out.wrong,?_⟩
  exact HC1.out.trans ((zbg _ r 1 (.bool true)).mono (G:=F2 r p) (fun i _ hi=>.inl hi)) (fun i _ hi=>hi)
def RdE {α:Type} (o:Option (α×List Bool)) (d:α) (B':List Bool) (wg':Bool):Prop:=(o=none→wg'=true)∧∀d0 c,o=some (d0,c)→d=d0∧B'=c∧wg'=false
def RdR {α:Type} (rd:List Bool→Option (α×List Bool)) (B:List Bool) (wg:Bool) (d:α) (B':List Bool) (wg':Bool):Prop:=
 (wg=true→wg'=true)∧(wg=false→RdE (rd B) d B' wg')
theorem zbn (n:Nat) (B:List Bool):tkW n B true=true:=by unfold tkW;split <;> rfl
theorem rdW_tk (w s:Nat) (c:List Bool):RdE (rdW w s c) (sg (tkV w c) w) (tkB w c) (tkW w c false || bdD w (s:Int) c):=by
 unfold RdE rdW tkW bdD tkV tkB
 by_cases h:w≤c.length
 · simp only [h,if_true]
   by_cases h2:fit (sg (vl (c.take w)) w) s
   · simp [h2]
   simp [h2]
 simp [h]
def DI (B:List Bool) (wg:Bool) (k:Nat) (Bk:List Bool) (wgk:Bool):Prop:=(wg=true→wgk=true)∧(wg=false→wgk=false∧B=List.replicate k true++Bk)
theorem tk1 (B:List Bool):(B=[]∧tkV 1 B=0∧tkB 1 B=[]∧∀g,tkW 1 B g=true)∨(∃c,B=false :: c∧tkV 1 B=0∧tkB 1 B=c∧∀g,tkW 1 B g=g)∨(∃c,B=true :: c∧tkV 1 B=1∧tkB 1 B=c∧∀g,tkW 1 B g=g):=by
 cases B with
 |nil=>left;simp [tkV,tkB,tkW]
 |cons b c=>
  cases b
  · right;left;exact ⟨c,rfl,by simp [tkV,vl],by simp [tkB],by simp [tkW]⟩
  right;right;exact ⟨c,rfl,by simp [tkV,vl],by simp [tkB],by simp [tkW]⟩
theorem DI.more {B Bk:List Bool} {wg wgk:Bool} {k:Nat} (h:DI B wg k Bk wgk) (h1:¬tkV 1 Bk=0):tkV 1 Bk=1∧DI B wg (k+1) (tkB 1 Bk) (tkW 1 Bk wgk):=by
 rcases tk1 Bk with ⟨_,h2,_⟩|⟨c,_,h2,_⟩|⟨c,rfl,h2,h3,h4⟩
 · exact absurd h2 h1
 · exact absurd h2 h1
 refine ⟨h2,?_⟩
 rw [h3,h4]
 exact ⟨h.1,fun e=>⟨(h.2 e).1,by rw [(h.2 e).2,List.replicate_succ'];simp⟩⟩
theorem DI.stop {B Bk:List Bool} {wg wgk:Bool} {k n:Nat} {s:Int} (h:DI B wg k Bk wgk) (h1:tkV 1 Bk=0) (hk:k=0∧n=0∧s= -1∨k=1∧n=7∧s=0∨k=2∧n=9∧s=7∨k=3∧n=12∧s=9):
 RdR rdD B wg (sg (tkV n (tkB 1 Bk)) n) (tkB n (tkB 1 Bk)) (tkW n (tkB 1 Bk) (tkW 1 Bk wgk) || bdD n s (tkB 1 Bk)):=by
 refine ⟨fun e=>?_,fun e=>?_⟩
 · rw [h.1 e,zbn,zbn];rfl
 obtain ⟨e1,e2⟩:=h.2 e
 subst e1
 rcases tk1 Bk with ⟨rfl,_,h3,h4⟩|⟨c,rfl,_,h3,h4⟩|⟨c,_,h2,_⟩
 · rw [h4,zbn,Bool.true_or,e2]
   refine ⟨fun _=>rfl,fun d0 c h=>?_⟩
   rcases hk with ⟨rfl,_⟩|⟨rfl,_⟩|⟨rfl,_⟩|⟨rfl,_⟩ <;> exact absurd h (by simp [List.replicate,rdD])
 · rw [h3,h4,e2]
   rcases hk with ⟨rfl,rfl,rfl⟩|⟨rfl,rfl,rfl⟩|⟨rfl,rfl,rfl⟩|⟨rfl,rfl,rfl⟩
   · refine ⟨fun h=>absurd h (by simp [rdD]),fun d0 c0 h=>?_⟩
     simp only [List.replicate_zero,List.nil_append,rdD] at h
     injection h with h
     injection h with h5 h6
     subst h5 h6
     refine ⟨by simp [tkV,vl,sg,wr],by simp [tkB],by simp [tkW,bdD]⟩
   · exact rdW_tk 7 0 c
   · exact rdW_tk 9 7 c
   exact rdW_tk 12 9 c
 rw [h2] at h1;exact absurd h1 (by omega)
theorem DI.last {B Bk:List Bool} {wg wgk:Bool} (h:DI B wg 4 Bk wgk):RdR rdD B wg (sg (tkV 64 Bk) 64) (tkB 64 Bk) (tkW 64 Bk wgk || bdD 64 12 Bk):=by
 refine ⟨fun e=>?_,fun e=>?_⟩
 · rw [h.1 e,zbn];rfl
 obtain ⟨e1,e2⟩:=h.2 e
 subst e1
 rw [e2]
 exact rdW_tk 64 12 Bk
def DrP (w:World) (r p:Nat) (B:List Bool) (wg:Bool) (e:Ending) (w':World):Prop:=
 ∃d B' wg',e=.returned (.int .i64 d)∧I64 d∧RdR rdD B wg d B' wg'∧XS w' r p B' wg'∧Chg (F2 r p) w w'
theorem zfo {n:Nat} {B:List Bool} (hn:n=0∨n=7∨n=9∨n=12∨n=64):I64 (sg (tkV n B) n):=sg_i64 (by
 rcases hn with rfl|hn
 · exact .inl ⟨rfl,by have:=zb4 (n:=0) (B:=B);omega⟩
 exact .inr ⟨hn,zb4⟩)
def shK (k:Nat):Int:=if k=0 then -1 else if k=1 then 0 else if k=2 then 7 else if k=3 then 9 else 12
theorem driftP (w:World) (r p:Nat) (B:List Bool) (wg:Bool) (h:XS w r p B wg) (hG:Gv w):
 Calls Tryz.prog 127 #[.pointer (some ⟨r,0,none⟩)] w (DrP w r p B wg):=by
 have HX:=zaa h
 have HG:=zaa hG
 have HTK:Hid (∀w1 B1 g1,XS w1 r p B1 g1→Calls Tryz.prog 130 #[.pointer (some ⟨r,0,none⟩),.int .i64 1] w1 fun e w'=>e=.returned (.int .u64 (tkV 1 B1:Int))∧XS w' r p (tkB 1 B1) (tkW 1 B1 g1)∧Chg (F2 r p) w1 w'):=zaa (fun w1 B1 g1 h1=>takeP w1 r p B1 g1 1 h1 (by omega))
 clear h hG
 have g0:=(HG.out.wid 0 (by omega))
 have g1:=(HG.out.wid 1 (by omega))
 have g2:=(HG.out.wid 2 (by omega))
 have g3:=(HG.out.wid 3 (by omega))
 simp [wds] at g0 g1 g2 g3
 go_enter Tryz.func127,Tryz.ntmps127
 go_wp2_with fail
 go_loopw [3,7] (fun s3 s7 wr=>∃k:Nat,s7=.int .i64 (k:Int)∧s3=.int .i64 (shK k)∧k≤4∧∃Bk wgk,Hid (DI B wg k Bk wgk)∧Hid (XS wr r p Bk wgk)∧Hid (Chg (F2 r p) w wr)) (fun s3 s7 _=>4 - (intOf s7).toNat)
 case atStart=>exact ⟨0,rfl,rfl,by omega,B,wg,zaa ⟨fun e=>e,fun e=>⟨e,by simp⟩⟩,HX,zaa (Chg.refl _ _)⟩
 case round=>
  rename World=>wr
  obtain ⟨k,rfl,rfl,hk,Bk,wgk,hI,hX,hC⟩:=hrel
  by_cases hk4:k<4
  · have hkz:(k:Int)<4:=by omega
    have hcase:k=0∨k=1∨k=2∨k=3:=by omega
    rcases hcase with rfl|rfl|rfl|rfl
    · rw [show ((0:Nat):Int)=0 from rfl]
      have hix:=ix0
      have hsh:shK 0=(-1):=rfl
      rw [hsh]
      go_wp2_with fail
      refine (HTK.out wr Bk wgk hX.out).mono ?_
      rintro e w3 ⟨rfl,h3,hc3⟩
      have H3:=zaa h3
      have HC3:=zaa (hC.out.trans hc3 (fun i _ hi=>hi))
      clear h3 hc3
      by_cases h1:tkV 1 Bk=0
      · have HS:=zaa (hI.out.stop (n:=0) (s:=(-1)) h1 (by omega))
        rw [h1]
        go_wp2_with fail
        refine (zdw w3 r p _ _ 0 (-1) H3.out (by omega) (by omega)).mono ?_
        rintro e w4 ⟨rfl,h4,hc4⟩
        have H4:=zaa (show DrP w r p B wg (.returned (.int .i64 (sg (tkV 0 (tkB 1 Bk)) 0))) w4 from ⟨_,_,_,rfl,zfo (by omega),HS.out,h4,HC3.out.trans hc4 (fun i _ hi=>hi)⟩)
        clear h4 hc4
        go_wp2
        go_ret
        exact H4.out
      obtain ⟨h2,hM⟩:=hI.out.more h1
      have HM:=zaa hM
      rw [h2]
      clear hM h1
      go_wp2
      exact ⟨⟨1,rfl,rfl,by omega,tkB 1 Bk,tkW 1 Bk wgk,HM,H3,HC3⟩,by simp [intOf]⟩
    · rw [show ((1:Nat):Int)=1 from rfl]
      have hix:=ix1
      have hsh:shK 1=0:=rfl
      rw [hsh]
      go_wp2_with fail
      refine (HTK.out wr Bk wgk hX.out).mono ?_
      rintro e w3 ⟨rfl,h3,hc3⟩
      have H3:=zaa h3
      have HC3:=zaa (hC.out.trans hc3 (fun i _ hi=>hi))
      clear h3 hc3
      by_cases h1:tkV 1 Bk=0
      · have HS:=zaa (hI.out.stop (n:=7) (s:=0) h1 (by omega))
        rw [h1]
        go_wp2_with fail
        refine (zdw w3 r p _ _ 7 0 H3.out (by omega) (by omega)).mono ?_
        rintro e w4 ⟨rfl,h4,hc4⟩
        have H4:=zaa (show DrP w r p B wg (.returned (.int .i64 (sg (tkV 7 (tkB 1 Bk)) 7))) w4 from ⟨_,_,_,rfl,zfo (by omega),HS.out,h4,HC3.out.trans hc4 (fun i _ hi=>hi)⟩)
        clear h4 hc4
        go_wp2
        go_ret
        exact H4.out
      obtain ⟨h2,hM⟩:=hI.out.more h1
      have HM:=zaa hM
      rw [h2]
      clear hM h1
      go_wp2
      exact ⟨⟨2,rfl,rfl,by omega,tkB 1 Bk,tkW 1 Bk wgk,HM,H3,HC3⟩,by simp [intOf]⟩
    · rw [show ((2:Nat):Int)=2 from rfl]
      have hix:=ix2
      have hsh:shK 2=7:=rfl
      rw [hsh]
      go_wp2_with fail
      refine (HTK.out wr Bk wgk hX.out).mono ?_
      rintro e w3 ⟨rfl,h3,hc3⟩
      have H3:=zaa h3
      have HC3:=zaa (hC.out.trans hc3 (fun i _ hi=>hi))
      clear h3 hc3
      by_cases h1:tkV 1 Bk=0
      · have HS:=zaa (hI.out.stop (n:=9) (s:=7) h1 (by omega))
        rw [h1]
        go_wp2_with fail
        refine (zdw w3 r p _ _ 9 7 H3.out (by omega) (by omega)).mono ?_
        rintro e w4 ⟨rfl,h4,hc4⟩
        have H4:=zaa (show DrP w r p B wg (.returned (.int .i64 (sg (tkV 9 (tkB 1 Bk)) 9))) w4 from ⟨_,_,_,rfl,zfo (by omega),HS.out,h4,HC3.out.trans hc4 (fun i _ hi=>hi)⟩)
        clear h4 hc4
        go_wp2
        go_ret
        exact H4.out
      obtain ⟨h2,hM⟩:=hI.out.more h1
      have HM:=zaa hM
      rw [h2]
      clear hM h1
      go_wp2
      exact ⟨⟨3,rfl,rfl,by omega,tkB 1 Bk,tkW 1 Bk wgk,HM,H3,HC3⟩,by simp [intOf]⟩
    rw [show ((3:Nat):Int)=3 from rfl]
    have hix:=ix3
    have hsh:shK 3=9:=rfl
    rw [hsh]
    go_wp2_with fail
    refine (HTK.out wr Bk wgk hX.out).mono ?_
    rintro e w3 ⟨rfl,h3,hc3⟩
    have H3:=zaa h3
    have HC3:=zaa (hC.out.trans hc3 (fun i _ hi=>hi))
    clear h3 hc3
    by_cases h1:tkV 1 Bk=0
    · have HS:=zaa (hI.out.stop (n:=12) (s:=9) h1 (by omega))
      rw [h1]
      go_wp2_with fail
      refine (zdw w3 r p _ _ 12 9 H3.out (by omega) (by omega)).mono ?_
      rintro e w4 ⟨rfl,h4,hc4⟩
      have H4:=zaa (show DrP w r p B wg (.returned (.int .i64 (sg (tkV 12 (tkB 1 Bk)) 12))) w4 from ⟨_,_,_,rfl,zfo (by omega),HS.out,h4,HC3.out.trans hc4 (fun i _ hi=>hi)⟩)
      clear h4 hc4
      go_wp2
      go_ret
      exact H4.out
    obtain ⟨h2,hM⟩:=hI.out.more h1
    have HM:=zaa hM
    rw [h2]
    clear hM h1
    go_wp2
    exact ⟨⟨4,rfl,rfl,by omega,tkB 1 Bk,tkW 1 Bk wgk,HM,H3,HC3⟩,by simp [intOf]⟩
  obtain rfl:k=4:=by omega
  rw [show ((4:Nat):Int)=4 from rfl]
  have hsh:shK 4=12:=rfl
  rw [hsh]
  go_wp2_with fail
  refine (zdw wr r p _ _ 64 12 hX.out (by omega) (by omega)).mono ?_
  rintro e w4 ⟨rfl,h4,hc4⟩
  have H4:=zaa (show DrP w r p B wg (.returned (.int .i64 (sg (tkV 64 Bk) 64))) w4 from ⟨_,_,_,rfl,zfo (by omega),hI.out.last,h4,hC.out.trans hc4 (fun i _ hi=>hi)⟩)
  clear h4 hc4
  go_wp2
  go_ret
  exact H4.out
def fa (c:List Bool):Nat:=tkV 6 c
def fz (c:List Bool):Nat:=tkV 6 (tkB 6 c)+1
def fc (c:List Bool):List Bool:=tkB 6 (tkB 6 c)
def fg (c:List Bool) (wg:Bool):Bool:=tkW 6 (tkB 6 c) (tkW 6 c wg)
def fx (c:List Bool):Nat:=tkV (fz c) (fc c)*2 ^ (64 - fa c - fz c)
def fo (c:List Bool):Bool:=decide (ahd (fx c)=fa c∧siz (fx c)=fz c)
theorem fa_lt (c:List Bool):fa c<64:=zb4 (n:=6)
theorem fz_lt (c:List Bool):1≤fz c∧fz c≤64:=by
 have:=zb4 (n:=6) (B:=tkB 6 c)
 unfold fz
 omega
theorem fx_lt {c:List Bool} (h:fa c+fz c≤64):fx c<18446744073709551616:=by
 have h1:=zb4 (n:=fz c) (B:=fc c)
 unfold fx
 have h3:tkV (fz c) (fc c)*2 ^ (64 - fa c - fz c)<2 ^ fz c*2 ^ (64 - fa c - fz c):=Nat.mul_lt_mul_of_pos_right h1 (Nat.two_pow_pos _)
 rw [←Nat.pow_add] at h3
 have h4:2 ^ (fz c+(64 - fa c - fz c))≤2 ^ 64:=Nat.pow_le_pow_right (by omega) (by omega)
 omega
theorem f_short {c:List Bool} (h:¬12≤c.length) (wg:Bool):fg c wg=true:=by
 unfold fg
 by_cases h6:6≤c.length
 · unfold tkW tkB
   rw [if_pos h6,if_neg (by rw [List.length_drop];omega)]
 have:tkW 6 c wg=true:=by unfold tkW;rw [if_neg h6]
 rw [this,zbn]
theorem f_long {c:List Bool} (h:12≤c.length):fa c=vl (c.take 6)∧fz c=vl ((c.drop 6).take 6)+1∧fc c=(c.drop 6).drop 6∧∀wg,fg c wg=wg:=by
 have h6:6≤c.length:=by omega
 have h6':6≤(c.drop 6).length:=by rw [List.length_drop];omega
 unfold fa fz fc fg tkV tkB tkW
 simp only [h6,if_true,h6']
 exact ⟨trivial,trivial,trivial,fun _=>trivial⟩
theorem rdX_no {c:List Bool} (h:¬fa c+fz c≤64):rdX (true :: c)=none:=by
 rw [rdX]
 split
 · rename_i h12
   obtain ⟨e1,e2,e3,e4⟩:=f_long h12
   rw [e1,e2] at h
   simp only
   rw [if_neg (by omega)]
 rfl
theorem rdX_yes {c:List Bool} (wg:Bool) (h:fa c+fz c≤64):RdR rdX (true :: c) wg (fx c) (tkB (fz c) (fc c)) (tkW (fz c) (fc c) (fg c wg) || !fo c):=by
 refine ⟨fun e=>?_,fun e=>?_⟩
 · subst e
   have:fg c true=true:=by unfold fg;rw [zbn,zbn]
   rw [this,zbn]
   rfl
 subst e
 by_cases h12:12≤c.length
 · obtain ⟨e1,e2,e3,e4⟩:=f_long h12
   have er:rdX (true :: c)=if fz c≤(fc c).length then (if fo c=true then some (fx c,(fc c).drop (fz c)) else none) else none:=by
    rw [rdX,if_pos h12]
    simp only [←e1,←e2,←e3]
    by_cases hz:fz c≤(fc c).length
    · rw [if_pos ⟨h,hz⟩,if_pos hz]
      have ex:vl ((fc c).take (fz c))*2 ^ (64 - fa c - fz c)=fx c:=by unfold fx tkV;rw [if_pos hz]
      rw [ex]
      unfold fo
      by_cases hh:ahd (fx c)=fa c∧siz (fx c)=fz c
      · rw [if_pos hh,if_pos (by simpa using hh)]
      rw [if_neg hh,if_neg (by simpa using hh)]
    rw [if_neg (fun hh=>hz hh.2),if_neg hz]
   rw [er,e4]
   unfold RdE tkW tkB
   by_cases hz:fz c≤(fc c).length
   · simp only [hz,if_true]
     cases fo c <;> simp
   simp [hz]
 rw [f_short h12,zbn]
 refine ⟨fun _=>rfl,fun d0 c0 hh=>?_⟩
 rw [rdX,if_neg h12] at hh
 exact absurd hh (by simp)
theorem tz0P (w:World):Calls Tryz.prog 107 #[.int .u64 0] w fun e w'=>e=.returned (.int .i64 64)∧w'=w:=by
 go_enter Tryz.func107,Tryz.ntmps107
 go_wp2
 go_ret
 exact ⟨rfl,rfl⟩
theorem lz0P (w:World):Calls Tryz.prog 162 #[.int .u64 0] w fun e w'=>∃a:Nat,e=.returned (.int .i64 (a:Int))∧a≤64∧w'=w:=by
 go_enter Tryz.func162,Tryz.ntmps162
 go_wp2_with fail
 refine (Q.len64_any 0 w (by omega) (by omega)).mono ?_
 rintro e w' ⟨⟨r,rfl,hr⟩,rfl⟩
 have h64:=hr.2.2
 clear hr
 have hz:(64:Int) - (r:Int)=((64 - r:Nat):Int):=by omega
 go_wp2
 go_ret
 exact ⟨64 - r,by first|rfl|simp|(simp;omega),by omega,by first|trivial|rfl⟩
theorem span0P (w:World):Calls Tryz.prog 147 #[.int .u64 0] w fun e w'=>∃a:Nat,e=.returned (.tuple #[.int .i64 (a:Int),.int .i64 (-(a:Int))])∧a≤64∧w'=w:=by
 have HA:=zaa (lz0P w)
 have HT:=zaa (tz0P w)
 go_enter Tryz.func147,Tryz.ntmps147
 go_wp2_with fail
 refine HA.out.mono ?_
 rintro e w' ⟨a,rfl,ha,rfl⟩
 go_wp2_with fail
 refine HT.out.mono ?_
 rintro e w' ⟨rfl,rfl⟩
 go_wp2
 go_ret2
 exact ⟨a,by simp;omega,ha,by first|trivial|rfl⟩
def FlP (w:World) (r p:Nat) (B:List Bool) (wg:Bool) (e:Ending) (w':World):Prop:=
 ∃(x:Nat) (B':List Bool) (wg':Bool),e=.returned (.int .u64 (x:Int))∧x<18446744073709551616∧RdR rdX B wg x B' wg'∧XS w' r p B' wg'∧Chg (F2 r p) w w'
theorem gv_chg {w w':World} {F:Nat→Prop} (h:Gv w) (hc:Chg F w w') (h0:¬F 0∧¬F 1):Gv w':=
 ⟨fun j hj=>by
  have hh:=h.wid j hj
  rw [World.cell?_of_block (w:=w) (hc.block 1 (World.block_lt_of_cell? w _ hh) h0.2)];exact hh,
  fun j hj=>by
   have hh:=h.tab j hj
   rw [World.cell?_of_block (w:=w) (hc.block 0 (World.block_lt_of_cell? w _ hh) h0.1)];exact hh⟩
theorem spanQ (x:Nat) (w:World) (hx:x<18446744073709551616) (hG:Gv w):
 Calls Tryz.prog 147 #[.int .u64 (x:Int)] w fun e w'=>∃A Z:Int,e=.returned (.tuple #[.int .i64 A,.int .i64 Z])∧(-64≤A∧A≤64∧-64≤Z∧Z≤64)∧w'=w∧∀a z:Nat,a<64→1≤z→((A=(a:Int)∧Z=(z:Int))↔(ahd x=a∧siz x=z)):=by
 by_cases h0:x=0
 · subst h0
   refine (span0P w).mono ?_
   rintro e w' ⟨A,rfl,hA,rfl⟩
   refine ⟨A,-A,rfl,by omega,rfl,fun a z ha hz=>⟨fun h=>by omega,fun h=>?_⟩⟩
   rw [ahd_zero] at h
   omega
 refine (spanP x w hx (by omega) hG).mono ?_
 rintro e w' ⟨rfl,rfl⟩
 obtain ⟨s1,s2,s3,s4,s5⟩:=zcu hx (by omega)
 exact ⟨_,_,rfl,by omega,rfl,fun a z ha hz=>by omega⟩
theorem RdR.zero (B:List Bool) (wg:Bool) (h:tkV 1 B=0):RdR rdX B wg 0 (tkB 1 B) (tkW 1 B wg):=by
 refine ⟨fun e=>by rw [e,zbn],fun e=>?_⟩
 subst e
 rcases tk1 B with ⟨rfl,_,h3,h4⟩|⟨c,rfl,_,h3,h4⟩|⟨c,_,h2,_⟩
 · rw [h4]
   exact ⟨fun _=>rfl,fun d0 c0 hh=>absurd hh (by simp [rdX])⟩
 · rw [h3,h4]
   refine ⟨fun hh=>absurd hh (by simp [rdX]),fun d0 c0 hh=>?_⟩
   simp only [rdX] at hh
   injection hh with hh
   injection hh with h5 h6
   exact ⟨h5,h6,rfl⟩
 rw [h2] at h;exact absurd h (by omega)
theorem RdR.bad {α:Type} {rd:List Bool→Option (α×List Bool)} {B:List Bool} (h:rd B=none) (wg:Bool) (d:α) (B':List Bool):RdR rd B wg d B' true:=
 ⟨fun _=>rfl,fun _=>⟨fun _=>rfl,fun d0 c hh=>by rw [h] at hh;exact absurd hh (by simp)⟩⟩
theorem flipsP (w:World) (r p:Nat) (B:List Bool) (wg:Bool) (h:XS w r p B wg) (hG:Gv w) (hlo:1<r∧1<p):
 Calls Tryz.prog 128 #[.pointer (some ⟨r,0,none⟩)] w (FlP w r p B wg):=by
 have HX:=zaa h
 have HG:=zaa hG
 have HT1:Hid (∀w1 B1 g1,XS w1 r p B1 g1→Calls Tryz.prog 130 #[.pointer (some ⟨r,0,none⟩),.int .i64 1] w1 fun e w'=>e=.returned (.int .u64 (tkV 1 B1:Int))∧XS w' r p (tkB 1 B1) (tkW 1 B1 g1)∧Chg (F2 r p) w1 w'):=zaa (fun w1 B1 g1 h1=>takeP w1 r p B1 g1 1 h1 (by omega))
 have HT6:Hid (∀w1 B1 g1,XS w1 r p B1 g1→Calls Tryz.prog 130 #[.pointer (some ⟨r,0,none⟩),.int .i64 6] w1 fun e w'=>e=.returned (.int .u64 (tkV 6 B1:Int))∧XS w' r p (tkB 6 B1) (tkW 6 B1 g1)∧Chg (F2 r p) w1 w'):=zaa (fun w1 B1 g1 h1=>takeP w1 r p B1 g1 6 h1 (by omega))
 clear h hG
 go_enter Tryz.func128,Tryz.ntmps128
 go_wp2_with fail
 refine (HT1.out w B wg HX.out).mono ?_
 rintro e w1 ⟨rfl,h1,hc1⟩
 have H1:=zaa h1
 have C1:=zaa hc1
 clear h1 hc1
 by_cases hb:tkV 1 B=0
 · have HZ:=zaa (RdR.zero B wg hb)
   rw [hb]
   go_wp2
   go_ret
   exact ⟨0,_,_,rfl,by omega,HZ.out,H1.out,C1.out⟩
 obtain ⟨c,rfl,h2,h3,h4⟩:∃c,B=true :: c∧tkV 1 B=1∧tkB 1 B=c∧∀g,tkW 1 B g=g:=by
  rcases tk1 B with ⟨_,h2,_⟩|⟨c,_,h2,_⟩|hh
  · exact absurd h2 hb
  · exact absurd h2 hb
  exact hh
 rw [h3,h4] at H1
 rw [h2]
 clear hb h2 h3 h4 HX
 go_wp2_with fail
 refine (HT6.out w1 c wg H1.out).mono ?_
 rintro e w2 ⟨rfl,h2,hc2⟩
 have H2:=zaa h2
 have C2:=zaa (C1.out.trans hc2 (fun i _ hi=>hi))
 clear h2 hc2
 have a64:=fa_lt c
 have z64:=fz_lt c
 rw [show tkV 6 c=fa c from rfl]
 go_wp2_with fail
 refine (HT6.out w2 _ _ H2.out).mono ?_
 rintro e w3 ⟨rfl,h3,hc3⟩
 have H3:Hid (XS w3 r p (fc c) (fg c wg)):=zaa h3
 have C3:=zaa (C2.out.trans hc3 (fun i _ hi=>hi))
 clear h3 hc3
 have hze:((tkV 6 (tkB 6 c):Nat):Int)+1=(fz c:Int):=by unfold fz;omega
 have hz6:=zb4 (n:=6) (B:=tkB 6 c)
 generalize tkV 6 (tkB 6 c)=zz at*
 have f1:=H3.out.blk.frozen 1
 have d1:=H3.out.blk.cell 1
 simp at d1
 by_cases hle:fa c+fz c≤64
 · have hbe:64 - (fa c:Int) - (fz c:Int)=((64 - fa c - fz c:Nat):Int):=by omega
   obtain ⟨bh,hbh⟩:∃bh,64 - fa c - fz c=bh:=⟨_,rfl⟩
   rw [hbh] at hbe
   have hb64:bh≤64:=by omega
   have HTK:=zaa (takeP w3 r p (fc c) (fg c wg) (fz c) H3.out z64.2)
   have HY:=zaa (rdX_yes wg hle)
   have hxl:=fx_lt hle
   have hxe:fx c=tkV (fz c) (fc c)*2 ^ bh:=by unfold fx;rw [hbh]
   have hv64:=zd8 (n:=fz c) (B:=fc c) z64.2
   go_wp2_with fail
   refine HTK.out.mono ?_
   rintro e w4 ⟨rfl,h4,hc4⟩
   have H4:=zaa h4
   have C4:=zaa (C3.out.trans hc4 (fun i _ hi=>hi))
   have G4:=zaa (show Gv w4 from gv_chg HG.out C4.out (by unfold F2;omega))
   clear h4 hc4
   have f4:=H4.out.blk.frozen 1
   have d4:=H4.out.blk.cell 1
   simp at d4
   have hsh:IntKind.u64.wrap ((tkV (fz c) (fc c):Int)*2 ^ bh)=(fx c:Int):=by
    rw [u64w,hxe]
    have e1:((tkV (fz c) (fc c)*2 ^ bh:Nat):Int)=(tkV (fz c) (fc c):Int)*2 ^ bh:=by rw [Int.natCast_mul,Int.natCast_pow];rfl
    rw [←e1,←hxe]
    omega
   have HSP:=zaa (spanQ (fx c) w4 hxl G4.out)
   have hXl:=hxl
   clear hxe hxl HTK
   generalize tkV (fz c) (fc c)=vv at*
   go_wp2_with (first|simp only [hsh]|fail)
   refine HSP.out.mono ?_
   rintro e w5 ⟨A,Z,rfl,hAZ,rfl,hiff⟩
   have hi:=hiff (fa c) (fz c) a64 z64.1
   clear hiff HSP
   have hfo:fo c=decide (A=(fa c:Int)∧Z=(fz c:Int)):=by unfold fo;exact (decide_eq_decide.2 hi).symm
   rw [hfo] at HY
   clear hfo hi
   generalize fx c=X at*
   generalize fa c=a at*
   generalize fz c=z at*
   by_cases hA:A=(a:Int)
   · by_cases hZ:Z=(z:Int)
     · subst hA hZ
       simp only [and_self,decide_true,Bool.not_true,Bool.or_false] at HY
       go_wp2
       go_ret
       exact ⟨X,_,_,rfl,hXl,HY.out,H4.out,C4.out⟩
     have hno:decide (A=(a:Int)∧Z=(z:Int))=false:=by simp [hZ]
     rw [hno,Bool.not_false,Bool.or_true] at HY
     go_wp2_with fail
     first|go_region|skip
     go_wp2
     go_ret
     exact ⟨X,_,_,rfl,hXl,HY.out,H4.out.wrong,C4.out.trans ((zbg _ r 1 (.bool true)).mono (G:=F2 r p) (fun i _ hi=>.inl hi)) (fun i _ hi=>hi)⟩
   have hno:decide (A=(a:Int)∧Z=(z:Int))=false:=by simp [hA]
   rw [hno,Bool.not_false,Bool.or_true] at HY
   go_wp2_with fail
   first|go_region|skip
   go_wp2
   go_ret
   exact ⟨X,_,_,rfl,hXl,HY.out,H4.out.wrong,C4.out.trans ((zbg _ r 1 (.bool true)).mono (G:=F2 r p) (fun i _ hi=>.inl hi)) (fun i _ hi=>hi)⟩
 have HN:=zaa (rdX_no hle)
 generalize fa c=a at*
 generalize fz c=z at*
 have hlt:64 - (a:Int) - (z:Int)<0:=by omega
 go_wp2_with fail
 first|go_region|skip
 go_wp2
 go_ret
 exact ⟨0,_,_,rfl,by omega,RdR.bad HN.out wg 0 _,H3.out.wrong,C3.out.trans ((zbg _ r 1 (.bool true)).mono (G:=F2 r p) (fun i _ hi=>.inl hi)) (fun i _ hi=>hi)⟩
def f1 (B:List Bool):Sm:=⟨wr (tkV 64 B:Nat),tkV 64 (tkB 64 B)⟩
def g1 (B:List Bool):List Bool:=tkB 64 (tkB 64 B)
def h1 (B:List Bool) (wg:Bool):Bool:=tkW 64 (tkB 64 B) (tkW 64 B wg)
theorem f1_ok (B:List Bool):OkS (f1 B):=⟨zbv _,zd8 (by omega)⟩
theorem f1_long {B:List Bool} (h:¬B.length<128):f1 B=fiR B∧g1 B=(B.drop 64).drop 64∧∀wg,h1 B wg=wg:=by
 have h6:64≤B.length:=by omega
 have h6':64≤(B.drop 64).length:=by rw [List.length_drop];omega
 unfold f1 g1 h1 fiR tkV tkB tkW
 simp only [h6,if_true,h6']
 exact ⟨trivial,trivial,fun _=>trivial⟩
theorem f1_short {B:List Bool} (h:B.length<128) (wg:Bool):h1 B wg=true:=by
 unfold h1
 by_cases h6:64≤B.length
 · unfold tkW tkB
   rw [if_pos h6,if_neg (by rw [List.length_drop];omega)]
 have:tkW 64 B wg=true:=by unfold tkW;rw [if_neg h6]
 rw [this,zbn]
def rdF (n:Nat) (B:List Bool):Option (List Sm×List Bool):=
 if B.length<128 then none else
 match rdS (n - 1) (tr0 (fiR B)) ((B.drop 64).drop 64) with
 |none=>none
 |some (l,B3)=>some (fiR B :: l,B3)
theorem rdB_rdF (n:Nat) (B:List Bool):rdB n B=match rdF n B with|none=>none|some (l,B3)=>if B3.length<8∧vl B3=0 then some l else none:=by
 unfold rdB rdF
 split
 · rfl
 cases rdS (n - 1) (tr0 (fiR B)) ((B.drop 64).drop 64) with
 |none=>rfl
 |some x=>rfl
def SI (n:Nat) (B:List Bool) (i:Nat) (out:List Sm) (a:Tr) (Bi:List Bool) (wg:Bool):Prop:=
 (wg=true∧rdF n B=none)∨(wg=false∧2*i+Bi.length≤B.length∧rdF n B=match rdS (n - 1 - i) a Bi with|none=>none|some (l,B3)=>some (out++l,B3))
theorem SI.start (n:Nat) (B:List Bool):SI n B 0 [f1 B] (tr0 (f1 B)) (g1 B) (h1 B false):=by
 by_cases h:B.length<128
 · exact .inl ⟨f1_short h false,by unfold rdF;rw [if_pos h]⟩
 obtain ⟨e1,e2,e3⟩:=f1_long h
 refine .inr ⟨e3 _,?_,?_⟩
 · rw [e2];simp only [List.length_drop];omega
 unfold rdF
 rw [if_neg h,e1,e2,Nat.sub_zero]
 rfl
theorem rdD_len {B c:List Bool} {d:Int} (h:rdD B=some (d,c)):c.length+1≤B.length:=by
 have h1:=(rdD_some h).1
 have h2:=drB_ge d
 rw [h1,List.length_append]
 omega
theorem rdX_len {B c:List Bool} {x:Nat} (h:rdX B=some (x,c)):c.length+1≤B.length:=by
 have h1:=(rdX_some h).1
 have h2:=flB_ge x
 rw [h1,List.length_append]
 omega
theorem SI.next {n:Nat} {B:List Bool} {i:Nat} {out:List Sm} {a:Tr} {Bi:List Bool} (h:SI n B i out a Bi false) (hi:i<n - 1) {d:Int} {B1:List Bool} {wg1:Bool} {x:Nat} {B2:List Bool} {wg2:Bool}
 (hD:RdR rdD Bi false d B1 wg1) (hX:RdR rdX B1 wg1 x B2 wg2):SI n B (i+1) (out++[⟨(a.by' d x).t,(a.by' d x).v⟩]) (a.by' d x) B2 wg2:=by
 rcases h with ⟨h,_⟩|⟨_,hl,hr⟩
 · exact absurd h (by simp)
 have hk:n - 1 - i=(n - 1 - (i+1))+1:=by omega
 rw [hk,rdS] at hr
 have hD2:=hD.2 rfl
 cases hd:rdD Bi with
 |none=>
  have h1:=hX.1 (hD2.1 hd)
  rw [hd] at hr
  exact .inl ⟨h1,hr⟩
 |some dc=>
  obtain ⟨d0,c0⟩:=dc
  obtain ⟨rfl,rfl,rfl⟩:=hD2.2 _ _ hd
  have l1:=rdD_len hd
  have hX2:=hX.2 rfl
  rw [hd] at hr
  simp only at hr
  cases hx:rdX B1 with
  |none=>
   rw [hx] at hr
   exact .inl ⟨hX2.1 hx,hr⟩
  |some xc=>
   obtain ⟨x0,c1⟩:=xc
   obtain ⟨rfl,rfl,rfl⟩:=hX2.2 _ _ hx
   have l2:=rdX_len hx
   rw [hx] at hr
   simp only at hr
   refine .inr ⟨rfl,by omega,?_⟩
   rw [hr]
   cases rdS (n - 1 - (i+1)) (a.by' d x) B2 with
   |none=>rfl
   |some q=>simp
theorem SI.done {n:Nat} {B:List Bool} {i:Nat} {out:List Sm} {a:Tr} {Bi:List Bool} {wg:Bool} (h:SI n B i out a Bi wg) (hi:n - 1≤i):RdE (rdF n B) out Bi wg:=by
 rcases h with ⟨h,hr⟩|⟨h,hl,hr⟩
 · exact ⟨fun _=>h,fun d0 c hh=>by rw [hr] at hh;exact absurd hh (by simp)⟩
 rw [show n - 1 - i=0 by omega,rdS] at hr
 simp only [List.append_nil] at hr
 refine ⟨fun hh=>by rw [hr] at hh;exact absurd hh (by simp),fun d0 c hh=>?_⟩
 rw [hr] at hh
 injection hh with hh
 injection hh with h5 h6
 exact ⟨h5,h6,h⟩
theorem SI.bad {n:Nat} {B:List Bool} {i:Nat} {out:List Sm} {a:Tr} {Bi:List Bool} (h:SI n B i out a Bi true) (l:List Sm) (B':List Bool):RdE (rdF n B) l B' true:=by
 rcases h with ⟨h,hr⟩|⟨h,_⟩
 · exact ⟨fun _=>rfl,fun d0 c hh=>by rw [hr] at hh;exact absurd hh (by simp)⟩
 exact absurd h (by simp)
def z32:List Value:=[.int .i64 0,.int .u64 0]
theorem info32z:(Tryz.prog.info? 53).map (fun i=>i.zero.map (·.cells))=some (some z32.toArray):=by kernel_rfl
theorem size32:(Tryz.prog.info? 53).map (·.size)=some 2:=by kernel_rfl
theorem res_first (tmps:Array Value) (w:World) (g:Nat) (a b:Value) (hp:tmps.getD 2 undef=.pointer (some ⟨g,0,none⟩)) (h0:w.cell? ⟨g,0,none⟩=some a) (h1:w.cell? ⟨g,1,none⟩=some b):
 (results Tryz.f126 tmps).run Tryz.prog w=.ok (.agg #[a,b]) w:=by
 have h:Tryz.f126.results=#[.cell 2 53]:=by kernel_rfl
 have hp':tmps[2]?.getD undef=.pointer (some ⟨g,0,none⟩):=by simpa using hp
 simp [results,h,hp',asAddr,loadVar,h0,h1,go_sem]
theorem built32 (a b:Value) (x:Int) (y:Int) (ha:a=.int .i64 x) (hb:b=.int .u64 y):Tryz.prog.built 53 [(0,a),(1,b)]=some #[.int .i64 x,.int .u64 y]:=by subst ha hb;kernel_rfl
theorem firstP (w:World) (r p:Nat) (B:List Bool) (wg:Bool) (h:XS w r p B wg):
 Calls Tryz.prog 126 #[.pointer (some ⟨r,0,none⟩)] w fun e w'=>e=.returned (smV (f1 B))∧XS w' r p (g1 B) (h1 B wg)∧Chg (F2 r p) w w':=by
 have HX:=zaa h
 have hrl:=h.blk.lt
 have HTK:Hid (∀w1 B1 g1,XS w1 r p B1 g1→Calls Tryz.prog 130 #[.pointer (some ⟨r,0,none⟩),.int .i64 64] w1 fun e w'=>e=.returned (.int .u64 (tkV 64 B1:Int))∧XS w' r p (tkB 64 B1) (tkW 64 B1 g1)∧Chg (F2 r p) w1 w'):=zaa (fun w1 B1 g1 h1=>takeP w1 r p B1 g1 64 h1 (by omega))
 clear h
 go_enter Tryz.func126,Tryz.ntmps126
 go_wp2_with (refine zap rfl 53 rfl 2 rfl z32 info32z ?_;intro w1 B1 bl1 hz1;have HB1:=zaa B1;have X1:=zaa (HX.out.later bl1);have C1:=zaa (Chg.of_below (F:=F2 r p) bl1);clear B1 bl1 hz1)
 refine (HTK.out w1 B wg X1.out).mono ?_
 rintro e w2 ⟨rfl,h2,hc2⟩
 have X2:=zaa h2
 have hnr:¬F2 r p w.heap.size:=by unfold F2;have:=HX.out.lt;omega
 have HB2:=zaa (hc2.blk HB1.out hnr)
 have C2:=zaa (C1.out.trans hc2 (fun i _ hi=>hi))
 clear h2 hc2
 go_wp2_with fail
 refine (HTK.out w2 _ _ X2.out).mono ?_
 rintro e w3 ⟨rfl,h3,hc3⟩
 have X3:Hid (XS w3 r p (g1 B) (h1 B wg)):=zaa h3
 have HB3:=zaa (hc3.blk HB2.out hnr)
 have C3:=zaa (C2.out.trans hc3 (fun i _ hi=>hi))
 clear h3 hc3
 have hv1:=zd8 (n:=64) (B:=B) (by omega)
 have hv2:=zd8 (n:=64) (B:=tkB 64 B) (by omega)
 have hcv:IntKind.i64.wrap ((tkV 64 B:Nat):Int)=wr (tkV 64 B:Nat):=by
  rw [IntKind.wrap_i64]
  unfold wr
  rfl
 have HE:Hid (smV (f1 B)=.agg #[.int .i64 (wr (tkV 64 B:Nat)),.int .u64 (tkV 64 (tkB 64 B):Int)]):=zaa (by unfold smV f1;rfl)
 rw [←hcv] at HE
 generalize hW:IntKind.i64.wrap ((tkV 64 B:Nat):Int)=W at*
 generalize tkV 64 (tkB 64 B)=V2 at*
 clear hcv
 go_wp2_with (first
  |simp only [hW]
  |(refine wpList_build_to rfl 53 #[(0,.tmp 10),(1,.tmp 11)] rfl [(0,.int .i64 W),(1,.int .u64 (V2:Int))] #[.int .i64 W,.int .u64 (V2:Int)] rfl (built32 _ _ _ _ rfl rfl) ?_)
  |(refine za5 rfl 53 (.tmp 2) (.tmp 12) rfl rfl w.heap.size (l:=[.int .i64 W,.int .u64 (V2:Int)]) HB3.out rfl rfl rfl size32 (by intro v hv;simp at hv;rcases hv with rfl|rfl <;> rfl) ?_))
 have hN:=zb0 (l:=[.int .i64 W,.int .u64 (V2:Int)]) HB3.out rfl
 refine bodyPost_ret (res_first _ _ w.heap.size _ _ rfl (hN.cell 0) (hN.cell 1)) rfl ?_
 rw [HE.out]
 have hcs:=Chg.sets w.heap.size [.int .i64 W,.int .u64 (V2:Int)] 0 w3
 refine ⟨rfl,X3.out.bel hrl (hcs.below (by have:=HB3.out.lt;omega) (fun i hi=>by omega)),C3.out.trans hcs (fun i hi e=>by omega)⟩
theorem endP (w:World) (r p:Nat) (B:List Bool) (wg:Bool) (h:XS w r p B wg):
 Calls Tryz.prog 111 #[.pointer (some ⟨r,0,none⟩)] w fun e w'=>e=.returned (.tuple #[])∧(∃B',XS w' r p B' (wg || !decide (B.length<8∧vl B=0)))∧Chg (F2 r p) w w':=by
 have hBl:=h.len
 obtain ⟨l,t,k1,k2,k3⟩:=h.rs
 have hlen:8*l.length - t=B.length:=by rw [k3,List.length_drop,zd7]
 have HL:=zaa (zgl p t l w k1 (by omega))
 rw [hlen] at HL
 have HX:=zaa h
 have c0:=h.blk.cell 0
 simp at c0
 clear h k1 k2 k3 hlen
 obtain ⟨ok,hok⟩:∃ok,decide (B.length<8∧vl B=0)=ok:=⟨_,rfl⟩
 rw [hok]
 go_enter Tryz.func111,Tryz.ntmps111
 go_wp2_with fail
 refine HL.out.mono ?_
 rintro e w1 ⟨rfl,hc1⟩
 have X1:Hid (XS w1 r p B wg):=zaa (by
  obtain ⟨l,t,k1,k2,k3⟩:=HX.out.rs
  exact ⟨hc1.blk HX.out.blk (fun e=>e),⟨l,t,k1.same hc1,k2,k3⟩,HX.out.lt⟩)
 have C1:=zaa (hc1.mono (G:=F2 r p) (fun i _ hi=>hi.elim))
 clear hc1
 by_cases h8:B.length<8
 · have h8z:¬(8:Int)≤(B.length:Int):=by omega
   have HT:=zaa (takeP w1 r p B wg B.length X1.out (by omega))
   have e1:tkV B.length B=vl B:=by unfold tkV;rw [if_pos (Nat.le_refl _),List.take_length]
   have e2:tkW B.length B wg=wg:=by unfold tkW;rw [if_pos (Nat.le_refl _)]
   rw [e1,e2] at HT
   generalize tkB B.length B=B' at*
   have hvl:=vl_lt B
   have hv2:2 ^ B.length≤2 ^ 8:=Nat.pow_le_pow_right (by omega) (by omega)
   clear e1 e2
   have hdec:ok=decide (vl B=0):=by rw [←hok];simp [h8]
   have HOK:=zaa hdec
   clear hok hdec
   generalize vl B=v at*
   generalize B.length=n at*
   go_wp2_with fail
   refine HT.out.mono ?_
   rintro e w2 ⟨rfl,h2,hc2⟩
   have X2:=zaa h2
   have C2:=zaa (C1.out.trans hc2 (fun i _ hi=>hi))
   have f2:=h2.blk.frozen 1
   have d2:=h2.blk.cell 1
   simp at d2
   clear h2 hc2
   by_cases hv:v=0
   · subst hv
     go_wp2
     go_end0
     exact ⟨rfl,⟨_,by rw [HOK.out];simpa using X2.out⟩,C2.out⟩
   have hvz:¬(v:Int)=0:=by omega
   have hvz2:((v:Int) !=0)=true:=by simp;omega
   go_wp2_with fail
   first|go_region|skip
   go_wp2
   go_end0
   exact ⟨rfl,⟨_,by rw [HOK.out];simpa [hv] using X2.out.wrong⟩,C2.out.trans ((zbg _ r 1 (.bool true)).mono (G:=F2 r p) (fun i _ hi=>.inl hi)) (fun i _ hi=>hi)⟩
 have h8z:(8:Int)≤(B.length:Int):=by omega
 have hdec:ok=false:=by rw [←hok];simp [h8]
 subst hdec
 clear hok
 generalize B.length=n at*
 have f2:=X1.out.blk.frozen 1
 have d2:=X1.out.blk.cell 1
 simp at d2
 go_wp2_with fail
 first|go_region|skip
 go_wp2
 go_end0
 exact ⟨rfl,⟨_,by simpa using X1.out.wrong⟩,C1.out.trans ((zbg _ r 1 (.bool true)).mono (G:=F2 r p) (fun i _ hi=>.inl hi)) (fun i _ hi=>hi)⟩
def tC (a:Tr):List Value:=[.int .i64 a.t,.int .u64 (a.v:Int),.int .i64 a.st]
theorem built53a (a b:Value) (s:Sm):Tryz.prog.built 173 [(0,.agg #[.int .i64 s.t,.int .u64 (s.v:Int)])]=some #[.int .i64 s.t,.int .u64 (s.v:Int),.int .i64 0]:=by kernel_rfl
theorem Blk.ownsM {w:World} {g:Nat} {l:List Sm} (h:Blk w g 53 (cS l)) (hn:l.length≤1000000000) (b:Nat) (hb:b≤g):w.ownsRow b 53 2 (.slice (some ⟨g,0,none⟩) l.length l.length) l.length (cS l):=
 ⟨za9 l,.inr ⟨g,l.length,(cS l).toArray,rfl,hb,h,Nat.le_refl _,by unfold maxLen;omega,by simp [za9],by simp [List.take_of_length_le,za9]⟩⟩
theorem own_far {w wx:World} {v:Value} {n r p:Nat} {xs:List Value} (h:wx.ownsRow w.heap.size 53 2 v n xs) (hr:r<w.heap.size) (hp:p<r):∀i,v.ownBlock=some i→¬F2 r p i:=by
 intro i hi
 have:=(h.lt i hi).1
 unfold F2
 omega
theorem own_apart {wx:World} {v:Value} {n g b:Nat} {xs:List Value} {vs:List Value} (h:wx.ownsRow b 53 2 v n xs) (hB:Blk wx g 173 vs):∀i,v.ownBlock=some i→¬i=g:=by
 rintro i hi rfl
 rcases h.2 with ⟨rfl,_⟩|⟨g',cap,cur,rfl,_,hg,_⟩
 · exact absurd hi (by simp [Value.ownBlock])
 simp [Value.ownBlock] at hi
 subst hi
 have:=hB.symm.trans hg
 injection this with this
 injection this with _ h2 _
 exact absurd h2 (by decide)
theorem chg_far {b:Nat} {w w':World} (hb:Below b w w'):Chg (fun i=>b≤i) w w':=⟨hb.os,hb.tape,hb.output,hb.size,fun i hi hn=>hb.block i (by omega)⟩
theorem b8_blk {w w':World} {v:Value} {n g b:Nat} {xs vs:List Value} (h:w.ownsRow b 53 2 v n xs) (hB:Blk w g 173 vs) (hc:Chg (fun i=>v.ownBlock=some i) w w'):Blk w' g 173 vs:=hc.blk hB (fun e=>own_apart h hB g e rfl)
def SaP (w:World) (r p n:Nat) (B:List Bool) (e:Ending) (w':World):Prop:=
 ∃ad c l B' wg',e=.returned (.slice ad l.length c)∧w'.ownsRow w.heap.size 53 2 (.slice ad l.length c) l.length (cS l)∧(∀x∈l,OkS x)∧XS w' r p B' wg'∧RdE (rdF n B) l B' wg'∧Chg (F2 r p) w w'
structure SL (w wx:World) (r p g n:Nat) (B:List Bool) (i:Nat) (v:Value) (out:List Sm) (a:Tr) (Bi:List Bool) (wg:Bool):Prop where
 xs:XS wx r p Bi wg
 blk:Blk wx g 173 (tC a)
 own:wx.ownsRow w.heap.size 53 2 v out.length (cS out)
 ok:∀x∈out,OkS x
 oka:Ok a
 si:SI n B i out a Bi wg
 len:out.length=i+1
 chg:Chg (F2 r p) w wx
theorem samplesP (w:World) (r p n:Nat) (B:List Bool) (h:XS w r p B false) (hG:Gv w) (hlo:1<r∧1<p) (hn:1≤n) (hn2:n<18446744073709551616):
 Calls Tryz.prog 110 #[.pointer (some ⟨r,0,none⟩),.int .u64 (n:Int)] w (SaP w r p n B):=by
 have HX:=zaa h
 have HG:=zaa hG
 have hrl:=h.blk.lt
 have hBl:=h.len
 have hpr:=h.lt
 clear h hG
 have HF:=zaa (firstP w r p B false HX.out)
 unfold smV at HF
 have HO:=zaa (f1_ok B)
 obtain ⟨s,hs⟩:∃s,f1 B=s:=⟨_,rfl⟩
 have HS0:=zaa (SI.start n B)
 rw [hs] at HF HO HS0
 clear hs
 go_enter Tryz.func110,Tryz.ntmps110
 go_wp2_with fail
 refine HF.out.mono ?_
 rintro e w1 ⟨rfl,h1,hc1⟩
 have X1:=zaa h1
 have C1:=zaa hc1
 clear h1 hc1
 go_wp2_with (first
  |(refine wpList_build_to rfl 173 #[(0,.tmp 10)] rfl [(0,.agg #[.int .i64 s.t,.int .u64 (s.v:Int)])] #[.int .i64 s.t,.int .u64 (s.v:Int),.int .i64 0] rfl (built53a undef undef s) ?_)
  |(refine zap rfl 173 rfl 5 rfl tz3 info53 ?_;intro w2 B2 bl2 hz2;have HB2:=zaa B2;have X2:=zaa (X1.out.later bl2);have C2:=zaa (C1.out.trans (Chg.of_below (F:=F2 r p) bl2) (fun i _ hi=>hi));clear B2 bl2 hz2)
  |(refine za5 rfl 173 (.tmp 5) (.tmp 11) rfl rfl w1.heap.size (l:=[.int .i64 s.t,.int .u64 (s.v:Int),.int .i64 0]) HB2.out rfl rfl rfl size53 (by intro v hv;simp at hv;rcases hv with rfl|rfl|rfl <;> rfl) ?_
    have BN:=zb0 (l:=[.int .i64 s.t,.int .u64 (s.v:Int),.int .i64 0]) HB2.out rfl
    have CN:=Chg.sets w1.heap.size [.int .i64 s.t,.int .u64 (s.v:Int),.int .i64 0] 0 w2
    generalize w2.setCells w1.heap.size 0 [.int .i64 s.t,.int .u64 (s.v:Int),.int .i64 0]=w3 at BN CN ⊢
    have e0:=BN.cell 0
    have e1:=BN.cell 1
    simp at e0 e1
    have HBN:=zaa BN
    have HCN:=zaa CN
    clear BN CN))
 have hsz1:=C1.out.size
 have hsz3:=HCN.out.size
 have hb2:=HB2.out.lt
 have SL0:Hid (SL w (w3.alloc (.cells #[.int .i64 s.t,.int .u64 (s.v:Int)] 53)) r p w1.heap.size n B 0 (.slice (some ⟨w3.heap.size,0,none⟩) 1 1) [s] (tr0 s) (g1 B) (h1 B false)):=zaa (by
  have X3:XS w3 r p (g1 B) (h1 B false):=X2.out.bel (b:=w1.heap.size) (by omega) (HCN.out.below (by omega) (fun i hi=>by omega))
  have bl:Below w3.heap.size w3 (w3.alloc (.cells #[.int .i64 s.t,.int .u64 (s.v:Int)] 53)):=(Below.refl _ _).alloc (Nat.le_refl _) _
  refine ⟨X3.later bl,HBN.out.later bl,(Blk.new w3 53 (cS [s])).ownsM (by simp) _ (by omega),?_,tr0_ok HO.out,HS0.out,rfl,?_⟩
  · intro x hx;rw [List.mem_singleton.1 hx];exact HO.out
  exact (C2.out.trans HCN.out (fun i hi e=>by omega)).trans (Chg.of_below (F:=F2 r p) bl) (fun i _ hi=>hi))
 have hgw:w.heap.size≤w1.heap.size:=hsz1
 clear HBN HCN e0 e1 X1 X2 C1 C2 HB2 HF HS0 hsz1 hsz3 hb2
 generalize w1.heap.size=g at*
 go_loopw [6,17] (fun v6 v17 wx=>∃(i:Nat) (out:List Sm) (a:Tr) (Bi:List Bool) (wg:Bool),v17=.int .u64 (i:Int)∧i≤n - 1∧(∃ad c,v6=.slice ad out.length c)∧Hid (SL w wx r p g n B i v6 out a Bi wg)) (fun _ v17 _=>(n - 1) - (intOf v17).toNat)
 case atStart=>exact ⟨0,[s],tr0 s,_,_,rfl,by omega,⟨_,_,rfl⟩,SL0⟩
 case round=>
  rename World=>wx
  obtain ⟨i,out,a,Bi,wg,rfl,hi,⟨ad,c,rfl⟩,hS⟩:=hrel
  clear SL0 HX HO
  have c0:=hS.out.xs.blk.cell 1
  simp at c0
  have HLEN:=zaa hS.out.len
  by_cases hlt:i<n - 1
  · have hltz:(i:Int)<(n:Int) - 1:=by omega
    cases wg with
    |true=>
     go_wp2
     go_ret
     exact ⟨none,0,[],Bi,true,rfl,World.ownsRow_nil _ _ _ _,by simp,hS.out.xs,hS.out.si.bad [] Bi,hS.out.chg⟩
    |false=>
     have HG1:=zaa (gv_chg HG.out hS.out.chg (by unfold F2;omega))
     have hil:i≤400000000:=by
      rcases hS.out.si with ⟨h,_⟩|⟨_,h,_⟩
      · exact absurd h (by simp)
      omega
     go_wp2_with fail
     refine (driftP wx r p Bi false hS.out.xs HG1.out).mono ?_
     rintro e w4 ⟨dd,B1,wg1,rfl,hd,hR1,hX1,hc1⟩
     have HR1:=zaa hR1
     have HX1:=zaa hX1
     have HC1:=zaa hc1
     have HG2:=zaa (gv_chg HG1.out hc1 (by unfold F2;omega))
     have hdb:=hd
     unfold I64 at hdb
     have HD:=zaa hd
     clear hR1 hX1 hc1 hd
     go_wp2_with fail
     refine (flipsP w4 r p B1 wg1 HX1.out HG2.out hlo).mono ?_
     rintro e w5 ⟨x,B2,wg2,rfl,hx,hR2,hX2,hc2⟩
     have HC2:=zaa (HC1.out.trans hc2 (fun i _ hi=>hi))
     have HX2:=zaa hX2
     have hgF:¬F2 r p g:=by unfold F2;omega
     have HB5:=zaa (HC2.out.blk hS.out.blk hgF)
     have HSN:=zaa (hS.out.si.next hlt HR1.out hR2)
     have HOA:=zaa (by_ok (d:=dd) hS.out.oka hx)
     have HBY:=zaa (byP w5 a dd x HD.out hx hS.out.oka.t hS.out.oka.s hS.out.oka.v)
     unfold trV at HBY
     have e0:=HB5.out.cell 0
     have e1:=HB5.out.cell 1
     have e2:=HB5.out.cell 2
     simp [tC] at e0 e1 e2
     clear hX2 hc2 hR2 HX1 HR1
     generalize hab:a.by' dd x=b at*
     go_wp2_with fail
     refine HBY.out.mono ?_
     rintro e w6 ⟨rfl,bl6⟩
     have HB6:=zaa (HB5.out.later bl6)
     have X6:=zaa (HX2.out.later bl6)
     have C6:=zaa (HC2.out.trans (Chg.of_below (F:=F2 r p) bl6) (fun i _ hi=>hi))
     clear bl6 HBY HX2 HC2 HB5 e0 e1 e2
     have hgl:=hS.out.blk.lt
     go_wp2_with (first
      |(refine za5 rfl 173 (.tmp 5) (.tmp 30) rfl rfl g (l:=[.int .i64 b.t,.int .u64 (b.v:Int),.int .i64 b.st]) HB6.out rfl rfl rfl size53 (by intro v hv;simp at hv;rcases hv with rfl|rfl|rfl <;> rfl) ?_
        have BN:=zb0 (l:=[.int .i64 b.t,.int .u64 (b.v:Int),.int .i64 b.st]) HB6.out rfl
        have CN:=Chg.sets g [.int .i64 b.t,.int .u64 (b.v:Int),.int .i64 b.st] 0 w6
        generalize w6.setCells g 0 [.int .i64 b.t,.int .u64 (b.v:Int),.int .i64 b.st]=w7 at BN CN ⊢
        have e0:=BN.cell 0
        have e1:=BN.cell 1
        simp at e0 e1
        have HBN:=zaa BN
        have X7:=zaa (X6.out.bel (b:=w.heap.size) hrl (CN.below (by have:=C6.out.size;have:=hS.out.chg.size;omega) (fun i hi=>by omega)))
        have C7:=zaa (((hS.out.chg.trans C6.out (fun i _ hi=>hi))).trans CN (fun i hi e=>by omega))
        have O7:=zaa (CN.owns (C6.out.owns hS.out.own (own_far hS.out.own hrl hpr)) (own_apart hS.out.own hS.out.blk))
        clear BN CN)
      |(refine zbo _ rfl (.tmp 31) (.tmp 34) rfl w.heap.size (.slice ad out.length c) out.length out rfl w7 O7.out ⟨b.t,b.v⟩ rfl rfl (by have:=HLEN.out;omega) (by have:=C7.out.size;omega) ?_
        intro g' c' w8 o8 b8 p8
        have P8:=zaa p8
        have O8:=zaa o8
        have B8:=zaa b8
        clear o8 b8 p8))
     have hwb:(i:Int)+1=((i+1:Nat):Int):=by omega
     have X8:=zaa (X7.out.bel hrl B8.out)
     have BK8:=zaa (b8_blk O7.out HBN.out P8.out)
     refine ⟨⟨i+1,out++[⟨b.t,b.v⟩],b,B2,wg2,by first|rfl|(rw [←hwb];rfl),by omega,⟨some ⟨g',0,none⟩,c',by simp⟩,zaa ⟨X8.out,BK8.out,by simpa using O8.out,?_,HOA.out,HSN.out,by simp [HLEN.out],C7.out.trans (chg_far B8.out) (fun i hi e=>by omega)⟩⟩,?_⟩
     · intro y hy
       rcases List.mem_append.1 hy with hy|hy
       · exact hS.out.ok y hy
       rw [List.mem_singleton.1 hy];exact ⟨HOA.out.t,HOA.out.v⟩
     simp [intOf]
     omega
  have hge:¬(i:Int)<(n:Int) - 1:=by omega
  go_wp2
  go_ret
  exact ⟨ad,c,out,Bi,wg,rfl,hS.out.own,hS.out.ok,hS.out.xs,hS.out.si.done (by omega),hS.out.chg⟩
theorem built77 (p:Nat):Tryz.prog.built 182 [(0,.pointer (some ⟨p,0,none⟩))]=some #[.pointer (some ⟨p,0,none⟩),.bool false]:=by kernel_rfl
def RdP (w:World) (b:List Int) (e:Ending) (w':World):Prop:=
 ∃ad c l ec,e=.returned (.tuple #[.slice ad l.length c,.int .i64 ec])∧w'.ownsRow w.heap.size 53 2 (.slice ad l.length c) l.length (cS l)∧(∀x∈l,OkS x)∧Below w.heap.size w w'∧((rdR b=some l∧ec=0)∨(rdR b=none∧l=[]∧ec=100))
theorem rdR_go {b:List Int} (h:b≠[]) (h1:(Q.dec b).1≠0) {l:List Sm} {B':List Bool} {wg:Bool} (hE:RdE (rdF (Q.dec b).1 (ub (b.drop (Q.dec b).2))) l B' wg):
 ((wg || !decide (B'.length<8∧vl B'=0))=false→rdR b=some l)∧((wg || !decide (B'.length<8∧vl B'=0))=true→rdR b=none):=by
 have hr:rdR b=rdB (Q.dec b).1 (ub (b.drop (Q.dec b).2)):=by unfold rdR;rw [if_neg h,if_neg h1]
 rw [hr,rdB_rdF]
 cases hf:rdF (Q.dec b).1 (ub (b.drop (Q.dec b).2)) with
 |none=>
  have:=hE.1 hf
  subst this
  simp
 |some q=>
  obtain ⟨l0,c0⟩:=q
  obtain ⟨rfl,rfl,rfl⟩:=hE.2 _ _ hf
  simp only [Bool.false_or]
  by_cases hh:B'.length<8∧vl B'=0
  · simp [hh]
  simp [hh]
theorem sl_tail {w:World} {b off len K:Nat} {l:List Int} (h:Sl w (some ⟨b,off,none⟩) len l) (hk:K≤len) {ad:Option Addr} (hd:0<len - K→ad=some ⟨b,off+K,none⟩):Sl w ad (len - K) (l.drop K):=by
 have h2:=h.cut (K:=K) (N:=len - K) (by omega) (ad:=ad) hd
 rwa [List.take_of_length_le (by rw [List.length_drop,h.len];exact Nat.le_refl _)] at h2
theorem readP (w:World) (ad:Option Addr) (len cap:Nat) (b:List Int) (h:Sl w ad len b) (hG:Gv w) (hl:len≤100000000) (hlc:len≤cap) (hcm:cap≤9223372036854775807) (hno:ad=none→len=0∧cap=0) (hlo:2≤w.heap.size):
 Calls Tryz.prog 89 #[.slice ad len cap] w (RdP w b):=by
 have HS:=zaa h
 have HG:=zaa hG
 have hlen:=h.len
 have HU:=zaa (Q.uint_any ad len cap b w h (by omega))
 have hdl:=Q.dec_le b
 have HN:=zaa hno
 by_cases h0:len=0
 · subst h0
   have HR:Hid (rdR b=some []):=zaa (by rw [List.eq_nil_of_length_eq_zero hlen];rfl)
   clear h hG hno hlen hdl
   go_enter Tryz.func89,Tryz.ntmps89
   go_wp2
   go_ret2
   exact ⟨none,0,[],0,rfl,World.ownsRow_nil _ _ _ _,by simp,Below.refl _ _,.inl ⟨HR.out,rfl⟩⟩
 have hbn:b≠[]:=fun e=>h0 (by rw [←hlen,e];rfl)
 have h0z:¬(len:Int)=0:=by omega
 by_cases h1:(Q.dec b).1=0
 · have HR:Hid (rdR b=none):=zaa (by unfold rdR;rw [if_neg hbn,if_pos h1])
   rw [h1] at HU
   generalize (Q.dec b).2=k at*
   clear h hG hno hlen hdl h1
   go_enter Tryz.func89,Tryz.ntmps89
   go_wp2_with fail
   refine HU.out.mono ?_
   rintro e w1 ⟨rfl,rfl⟩
   go_wp2
   go_ret2
   exact ⟨none,0,[],100,rfl,World.ownsRow_nil _ _ _ _,by simp,Below.refl _ _,.inr ⟨HR.out,rfl,rfl⟩⟩
 obtain ⟨bb,off,rfl,hbl,_⟩:=h.at (by omega)
 have HGO:=zaa (fun (l:List Sm) (B':List Bool) (wg:Bool)=>rdR_go (l:=l) (B':=B') (wg:=wg) hbn h1)
 have hd64:(Q.dec b).1<18446744073709551616:=by have:=(Q.dec_bound b h.byte).1;omega
 generalize (Q.dec b).1=n at*
 generalize (Q.dec b).2=k at*
 have hk:k≤len:=by omega
 have h1z:¬(n:Int)=0:=by omega
 clear h hG hno hbn
 have CUT:=zaa (fun (ad:Option Addr) (hh:0<len - k→ad=some ⟨bb,off+k,none⟩)=>sl_tail HS.out hk hh)
 go_enter Tryz.func89,Tryz.ntmps89
 go_wp2_with fail
 refine HU.out.mono ?_
 rintro e w1 ⟨rfl,rfl⟩
 go_wp2_with fail
 all_goals
  refine (zgh _ _ _ (b.drop k) w1 (CUT.out _ (by first|(intro _;rfl)|(intro hh;omega))) (by omega) (by intro e;cases e)).mono ?_
  rintro e w2 ⟨p,rfl,hp,hR,bl2⟩
  have HR:=zaa hR
  have BL2:=zaa bl2
  have hpl:p<w2.heap.size:=by obtain ⟨_,_,_,hB,_⟩:=hR;exact hB.lt
  clear hR bl2
  go_wp2_with (first
   |(refine wpList_build_to rfl 182 #[(0,.tmp 21)] rfl [(0,.pointer (some ⟨p,0,none⟩))] #[.pointer (some ⟨p,0,none⟩),.bool false] rfl (built77 p) ?_)
   |(refine zac rfl 182 (.tmp 22) rfl [.pointer (some ⟨p,0,none⟩),.bool false] rfl ?_
     intro w3 B3 bl3 hz3
     have X3:Hid (XS w3 w2.heap.size p (ub (b.drop k)) false):=zaa ⟨B3,⟨b.drop k,0,HR.out.same (Chg.of_below bl3),by rw [List.length_drop];omega,by rw [List.drop_zero]⟩,hpl⟩
     have BL3:=zaa (BL2.out.trans (bl3.mono BL2.out.size))
     have G3:=zaa ((HG.out.later BL2.out).later bl3)
     have hz3':=hz3
     clear B3 bl3 hz3))
  refine (samplesP w3 w2.heap.size p n (ub (b.drop k)) X3.out G3.out (by omega) (by omega) hd64).mono ?_
  rintro e w4 ⟨ad4,c4,l,B4,wg4,rfl,o4,k4,x4,e4,ch4⟩
  have O4:=zaa o4
  have K4:=zaa k4
  have X4:=zaa x4
  have E4:=zaa e4
  have C4:=zaa ch4
  clear o4 k4 x4 e4 ch4
  go_wp2_with fail
  refine (endP w4 w2.heap.size p B4 wg4 X4.out).mono ?_
  rintro e w5 ⟨rfl,⟨B5,x5⟩,ch5⟩
  have hbl3:=BL3.out.size
  have hle3:=X3.out.blk.lt
  have BL5:Hid (Below w1.heap.size w1 w5):=zaa (BL3.out.trans ((C4.out.trans ch5 (fun i _ hi=>hi)).below hbl3 (fun i hi=>by unfold F2 at hi;have:=BL2.out.size;omega)))
  have O5:=zaa (ch5.owns O4.out (own_far O4.out hle3 hpl))
  have GO:=zaa (HGO.out l B4 wg4 E4.out)
  obtain ⟨wg,hwg⟩:∃wg,(wg4 || !decide (B4.length<8∧vl B4=0))=wg:=⟨_,rfl⟩
  rw [hwg] at GO x5
  have c1:=x5.blk.cell 1
  simp at c1
  have hol:w1.heap.size≤w3.heap.size:=hbl3
  have O6:=zaa (show w5.ownsRow w1.heap.size 53 2 (.slice ad4 l.length c4) l.length (cS l) from zbq O5.out (fun g hg=>Nat.le_trans hol (O5.out.lt g hg).1))
  clear x5 ch5 hwg
  cases wg with
  |true=>
   go_wp2
   go_ret2
   exact ⟨none,0,[],100,rfl,World.ownsRow_nil _ _ _ _,by simp,BL5.out,.inr ⟨GO.out.2 (by first|rfl|trivial),rfl,rfl⟩⟩
  |false=>
   go_wp2
   go_ret2
   exact ⟨ad4,c4,l,0,rfl,O6.out,K4.out,BL5.out,.inl ⟨GO.out.1 (by first|rfl|trivial),rfl⟩⟩
structure CS (w:World) (c p:Nat) (rb:Option Nat) (most:Int) (l:List Sm):Prop where
 blk:Blk w c 175 (chC most l.length (tl l) p)
 ws:WS w p rb (rowB l)
 ok:∀x∈l,OkS x
 most:I64 most
 lo:1<p∧∀i,rb=some i→1<i
def FC (c p:Nat) (rb:Option Nat):Nat→Prop:=fun i=>fpt p rb i∨i=c
theorem CS.later {w w':World} {c p:Nat} {rb:Option Nat} {most:Int} {l:List Sm} (h:CS w c p rb most l) (hb:Below w.heap.size w w'):CS w' c p rb most l:=
 ⟨h.blk.later hb,h.ws.later hb,h.ok,h.most,h.lo⟩
theorem CS.chg {F:Nat→Prop} {w w':World} {c p:Nat} {rb:Option Nat} {most:Int} {l:List Sm} (h:CS w c p rb most l) (hc:Chg F w w') (hF:∀i,FC c p rb i→¬F i):CS w' c p rb most l:=
 ⟨hc.blk h.blk (hF c (.inr rfl)),h.ws.chg hc (fun i hi=>hF i (.inl hi)),h.ok,h.most,h.lo⟩
theorem built56 (p:Nat):Tryz.prog.built 171 [(0,.pointer (some ⟨p,0,none⟩))]=some #[.pointer (some ⟨p,0,none⟩)]:=by kernel_rfl
theorem built58 (most:Int) (p:Nat):Tryz.prog.built 175 [(0,.int .i64 most),(3,.agg #[.pointer (some ⟨p,0,none⟩)])]=some (chC most 0 ⟨0,0,0⟩ p).toArray:=by kernel_rfl
theorem newP (w:World) (most:Int) (hm:I64 most) (hlo:2≤w.heap.size):
 Calls Tryz.prog 83 #[.int .i64 most] w fun e w'=>∃c p,e=.returned (.pointer (some ⟨c,0,none⟩))∧w.heap.size≤c∧w.heap.size≤p∧CS w' c p none most []∧Below w.heap.size w w':=by
 have hmb:=hm
 unfold I64 at hmb
 go_enter Tryz.func83,Tryz.ntmps83
 go_wp2_with fail
 refine (zgg w).mono ?_
 rintro e w1 ⟨rfl,hW,bl1⟩
 have HW:=zaa hW
 have BL1:=zaa bl1
 clear hW bl1
 go_wp2_with (first
  |(refine wpList_build_to rfl 171 #[(0,.tmp 4)] rfl [(0,.pointer (some ⟨w.heap.size,0,none⟩))] #[.pointer (some ⟨w.heap.size,0,none⟩)] rfl (built56 _) ?_)
  |(refine wpList_build_to rfl 175 #[(0,.tmp 3),(3,.tmp 5)] rfl [(0,.int .i64 most),(3,.agg #[.pointer (some ⟨w.heap.size,0,none⟩)])] (chC most 0 ⟨0,0,0⟩ w.heap.size).toArray rfl (built58 _ _) ?_)
  |(refine zac rfl 175 (.tmp 6) rfl (chC most 0 ⟨0,0,0⟩ w.heap.size) rfl ?_;intro w2 B2 bl2 hz2))
 go_ret
 refine ⟨w1.heap.size,w.heap.size,rfl,BL1.out.size,Nat.le_refl _,⟨B2,HW.out.later bl2,by simp,hm,by omega,by simp⟩,BL1.out.trans (bl2.mono BL1.out.size)⟩
theorem clenP (w:World) (c p:Nat) (rb:Option Nat) (most:Int) (l:List Sm) (h:CS w c p rb most l):
 Calls Tryz.prog 86 #[.pointer (some ⟨c,0,none⟩)] w fun e w'=>e=.returned (.int .i64 (l.length:Int))∧w'=w:=by
 have c1:=h.blk.cell 1
 simp [chC] at c1
 clear h
 go_enter Tryz.func86,Tryz.ntmps86
 go_wp2
 go_ret
 exact ⟨rfl,rfl⟩
theorem cappendP (w:World) (c p:Nat) (rb:Option Nat) (most:Int) (l:List Sm) (s:Sm) (h:CS w c p rb most l) (hG:Gv w) (hs:OkS s) (hl:l.length≤1000000):
 Calls Tryz.prog 84 #[.pointer (some ⟨c,0,none⟩),.int .i64 s.t,.int .u64 (s.v:Int)] w fun e w'=>e=.returned (.bool (decide (((encC (l++[s])).length:Int)≤most)))∧∃rb',CS w' c p rb' most (if ((encC (l++[s])).length:Int)≤most then l++[s] else l)∧Chg (FC c p rb) w w'∧Moved w rb rb':=by
 have hr:=room_on l s most
 refine (appendP w c p rb most l.length (tl l) (rowB l) s h.blk h.ws hG (tl_ok h.ok) hs hl (by have:=zf5 h.ok;omega) h.lo h.most).mono ?_
 rintro e w' ⟨rfl,hA⟩
 refine ⟨by rw [decide_eq_decide.2 hr],?_⟩
 by_cases hh:((encC (l++[s])).length:Int)≤most
 · rw [if_pos (hr.2 hh)] at hA
   rw [if_pos hh]
   obtain ⟨k1,rb',k2,k3,k4⟩:=hA
   refine ⟨rb',⟨?_,?_,?_,h.most,h.lo.1,?_⟩,k3,k4⟩
   · rw [tl_on,List.length_append];exact k1
   · rw [ze1];exact k2
   · intro x hx
     rcases List.mem_append.1 hx with hx|hx
     · exact h.ok x hx
     rw [List.mem_singleton.1 hx];exact hs
   rcases k4 with rfl|⟨g,rfl,hg⟩
   · exact h.lo.2
   intro i hi
   injection hi with hi
   have:=h.blk.lt
   have h0:=World.block_lt_of_cell? w _ (hG.wid 0 (by omega))
   simp at h0
   omega
 rw [if_neg (fun e=>hh (hr.1 e))] at hA
 rw [if_neg hh]
 obtain ⟨k1,rb',k2,k3,k4⟩:=hA
 refine ⟨rb',⟨k1,k2,h.ok,h.most,h.lo.1,?_⟩,k3,k4⟩
 rcases k4 with rfl|⟨g,rfl,hg⟩
 · exact h.lo.2
 intro i hi
 injection hi with hi
 have h0:=World.block_lt_of_cell? w _ (hG.wid 0 (by omega))
 simp at h0
 omega
end Go.Proofs.YtlppibigceeimaaGreatDoor
