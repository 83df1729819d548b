import Derived.Test.YtlppibigceeimaaGreatDoorShE
import Derived.Test.YtlppibigceeimaaGreatDoorSiC
import Derived.Laws.CopyRow
set_option linter.unusedSimpArgs false
set_option linter.unusedVariables false
set_option maxHeartbeats 40000000
set_option maxRecDepth 100000
namespace Go.Proofs.YtlppibigceeimaaGreatDoor
open Go.RowKit
theorem run_copy_smp {P:Program} (w:World) (dT sT ty elem:TypeId) (s g n m:Nat) (a:Addr) (dCap sCap:Nat) (cur:Array Value) (t:TypeId) (cs:List Value)
 (hu:P.underlying dT=some (.slice elem)) (hs:(P.info? elem).map (·.size)=some s) (hnm:n≤m)
 (hg:w.heap[g]?=some (.cells cur t (0,0))) (hn:cs.length=n*s)
 (hsrc:∀j v,cs[j]?=some v→w.cell? (a.add j)=some v) (hfit:cs.length≤cur.size) (h1:∀v∈cs,v.oneCell'=true):
 (Builtin.copy_ #[dT,sT] ty #[.slice (some ⟨g,0,none⟩) m dCap,.slice (some a) n sCap]).run P w=
   .ok (goInt n) (w.setRow g (cs++cur.toList.drop cs.length).toArray):=by
 have hl:=run_loadCells_list (P:=P) w a cs hsrc
 have hst:=run_storeCells_at P g 0 t cs 0 cur w hg (by simpa using hfit) h1
 simp only [Nat.zero_add,List.take_zero,List.nil_append] at hst
 have hmin:Nat.min n m=n:=Nat.min_eq_left hnm
 cases hq:P.info? elem with
 |none=>simp [hq] at hs
 |some i=>
  have hi:i.size=s:=by simpa [hq] using hs
  rw [hn] at hl
  simp [Builtin.copy_,run_underlying hu,Builtin.lenOf,Builtin.firstCells,sizeOf,typeInfo,hq,hi,hmin,hl,hst]
theorem size53':(Tryz.prog.info? 53).map (·.size)=some 2:=by kernel_rfl
theorem info53z:(Tryz.prog.info? 53).map (fun i=>(i.zero,i.size,i.bytes))=some (some (.agg #[.int .i64 0,.int .u64 0]),2,16):=by kernel_rfl
theorem made53 (n:Nat):(madeCells (Value.agg #[.int .i64 0,.int .u64 0]).cells (n*2)).toList=cS (List.replicate n z0):=by
 apply List.ext_getElem?
 intro j
 unfold madeCells
 simp only [Value.cells,Array.toList_map,List.getElem?_map,Array.toList_range]
 by_cases hj:j<n*2
 · have hx:(List.replicate n z0)[j / 2]?=some z0:=by rw [List.getElem?_replicate,if_pos (by omega)]
   have h9:=zfc _ _ _ hx
   rw [List.getElem?_range hj]
   simp only [Option.map_some]
   rcases Nat.mod_two_eq_zero_or_one j with h|h
   · rw [show j / 2*2=j by omega] at h9
     rw [h9.1]
     simp [h,z0]
   rw [show j / 2*2+1=j by omega] at h9
   rw [h9.2]
   simp [h,z0]
 rw [List.getElem?_eq_none (by simp;omega),List.getElem?_eq_none (by rw [za9,List.length_replicate];omega)]
 rfl
theorem zet {ops:Array Oper} {rest:List Oper} {o:Oper} {a:Act} {w:World} {Q:Exit→Act→World→Prop} (hgd:o.guard=none) (d s:Operand)
 (ho:o.op=.call { callee:=.builtin .copy,args:=#[d,s],argTypes:=#[46,46] }) (g n r c:Nat) (ad:Option Addr) (hd:a.eval d=.slice (some ⟨g,0,none⟩) (n+r) (n+r)) (hs:a.eval s=.slice ad n c)
 (l:List Sm) (hl:l.length=n) (hB:Blk w g 53 (cS (List.replicate (n+r) z0))) (hL:Ss w ad l) (hno:ad=none→l=[]∧c=0)
 (h:∀w',Blk w' g 53 (cS (l++List.replicate r z0))→Chg (fun i=>i=g) w w'→wpList Tryz.prog ops Q rest (a.put o.dst (goInt n)) w'):
 wpList Tryz.prog ops Q (o :: rest) a w:=by
 cases ad with
 |none=>
  obtain ⟨h0,hc⟩:=hno rfl
  subst h0 hc
  simp only [List.length_nil] at hl
  subst hl
  refine wpList_plain hgd fun K hK'=>?_
  have hrun:=run_copy_nil (P:=Tryz.prog) w 46 46 o.type 53 ⟨g,0,none⟩ r r Tryz.underlying46 (by rw [size53'];rfl)
  unfold Oper.wp
  simp [execOp,ho,resolve,invoke,builtin,hd,hs,hrun,Result.andThen]
  have h8:Blk w g 53 (cS ([]++List.replicate r z0)):=by rw [List.nil_append,←Nat.zero_add r];exact hB
  have h9:=hK' _ _ (h w h8 (Chg.refl _ _))
  exact h9
 |some x=>
  refine wpList_plain hgd fun K hK'=>?_
  have hrun:=run_copy_smp (P:=Tryz.prog) w 46 46 o.type 53 2 g n (n+r) x (n+r) c (cS (List.replicate (n+r) z0)).toArray 53 (cS l) Tryz.underlying46 size53' (by omega) hB (by rw [za9,hl]) hL.cells' (by simp [za9,hl];omega) (cS_one l)
  unfold Oper.wp
  simp [execOp,ho,resolve,invoke,builtin,hd,hs,hrun,Result.andThen]
  refine hK' _ _ (h _ ?_ ⟨rfl,rfl,rfl,by simp [World.setRow],fun k _ hk=>setRow_other w g k _ hk⟩)
  have h9:=setRow_heap w g _ (cS (l++List.replicate r z0)).toArray 53 _ hB
  have e:cS l++(cS (List.replicate (n+r) z0)).drop (cS l).length=cS (l++List.replicate r z0):=by
   have e2:List.replicate (n+r) z0=List.replicate n z0++List.replicate r z0:=by rw [List.replicate_append_replicate]
   rw [e2,zbs,List.drop_left' (by rw [za9,za9,List.length_replicate,hl]),zbs]
  unfold Blk
  rw [e]
  exact h9
theorem blk_setS {w:World} {g k:Nat} {l:List Sm} {x:Sm} (h:Blk w g 53 (cS l)):Blk ((w.setCell ⟨g,k*2,none⟩ (.int .i64 x.t)).setCell ⟨g,k*2+1,none⟩ (.int .u64 (x.v:Int))) g 53 (cS (l.set k x)):=by
 rw [cS_set]
 exact (h.set (k*2) _).set (k*2+1) _
theorem Ss.pre {w:World} {ad:Option Addr} {l m:List Sm} (h:Ss w ad (l++m)):Ss w ad l:=by
 refine ⟨fun x hx=>h.sz x (by simp [hx]),fun h0=>?_⟩
 obtain ⟨b,off,e1,e2,e3⟩:=h.at' (by simp [h0])
 exact ⟨b,off,e1,e2,fun i x hx=>e3 i x (by rw [List.getElem?_append_left (List.getElem?_eq_some_iff.1 hx).1];exact hx)⟩
theorem SZ.need {n:Nat} {st:K.Sx} {Z:ByteArray→List En} (hz:SZ n st Z) (o:ByteArray) (k:Int) (l:List Sm):
 zef (enL (Z o) k).1 (enL (Z o) k).2 l=((gO (gF ((enL (Z o) k).2++l))).length:Int) - ((gO (gF (enL (Z o) k).2)).length:Int)∧(gO (gB (enL (Z o) k).2 l)).length - hadL (enL (Z o) k).1=(gO (gF ((enL (Z o) k).2++l))).length - (gO (gF (enL (Z o) k).2)).length:=by
 have h1:=hz.hlen o k
 have h2:=(hz.en o k).1.1
 have h3:=congrArg List.length (zby (enL (Z o) k).2 l)
 rw [List.length_append] at h3
 unfold zef
 constructor <;> omega
theorem NdP.form {k:Int} {sl:List Nat} {A l:List Sm} {e:Ending} (h:NdP k sl A l e):∃a c:Int,e=.returned (.tuple #[.int .i64 a,.int .i64 c]):=by
 rcases h with ⟨_,rfl⟩|⟨_,_,rfl⟩|⟨_,_,rfl⟩ <;> exact ⟨_,_,rfl⟩
theorem NdR.form {k:Int} {A l:List Sm} {e:Ending} (h:NdR k A l e):∃a c:Int,e=.returned (.tuple #[.int .i64 a,.int .i64 c]):=by
 rcases h with ⟨_,rfl⟩|⟨_,_,rfl⟩|⟨_,_,rfl⟩ <;> exact ⟨_,_,rfl⟩
theorem ApP.form {F:Nat→Prop} {w w1:World} {S p n:Nat} {st:K.Sx} {Z:ByteArray→List En} {o:ByteArray} {k:Int} {l:List Sm} {e:Ending} (h:ApP F w S p n st Z o k l e w1):∃c:Int,e=.returned (.int .i64 c):=by
 rcases h with ⟨_,⟨_,rfl⟩|⟨_,_,rfl⟩|⟨_,_,_,rfl⟩|⟨_,_,_,_,rfl⟩⟩|⟨_,_,_,_,rfl,_⟩ <;> exact ⟨_,rfl⟩
theorem ApV.form {F:Nat→Prop} {w w1:World} {d r n:Nat} {st:K.Sx} {E:List De} {o:ByteArray} {k:Int} {A l:List Sm} {a b lf:Nat} {e:Ending} (h:ApV F w d r n st E o k A l a b lf e w1):∃c:Int,e=.returned (.int .i64 c):=by
 rcases h with ⟨_,⟨_,rfl⟩|⟨_,_,rfl⟩|⟨_,_,_,rfl⟩|⟨_,_,_,rfl⟩⟩|⟨_,_,_,_,rfl,_⟩ <;> exact ⟨_,rfl⟩
theorem need_both {n m:Nat} {st su:K.Sx} {Z Y:ByteArray→List En} (hz:SZ n st Z) (hy:SZ m su Y) (he:Eqv Z Y) (o:ByteArray) (k:Int) (l:List Sm) {e e':Ending} (h1:NdP k (enL (Z o) k).1 (enL (Z o) k).2 l e) (h2:NdR k (enL (Y o) k).2 l e'):
 e'=e∧∃a c:Int,e=.returned (.tuple #[.int .i64 a,.int .i64 c]):=by
 have heq:=he.smp (hz.key o) (hy.key o) k
 have hn:=(hz.need o k l).1
 rw [←heq] at h2
 unfold NdP at h1
 unfold NdR at h2
 rcases h1 with ⟨a1,a2⟩|⟨a1,a2,a3⟩|⟨a1,a2,a3⟩ <;> rcases h2 with ⟨b1,b2⟩|⟨b1,b2,b3⟩|⟨b1,b2,b3⟩
 · exact ⟨by rw [a2,b2],_,_,a2⟩
 · omega
 · omega
 · omega
 · exact ⟨by rw [a3,b3],_,_,a3⟩
 · exact absurd b2 a2
 · omega
 · exact absurd a2 b2
 exact ⟨by rw [a3,b3,hn],_,_,a3⟩
section
variable {w0 w w1 w2:World} {v:Nat} {P S R D n:Nat→Nat} {st su:Nat→K.Sx} {Z:Nat→ByteArray→List En} {E:Nat→List De} {F H:Nat→Nat→Prop} {vl vc:Value} {Ll Lc:List Value} {k T:Nat}
theorem ApP.chg {F:Nat→Prop} {S p n:Nat} {st:K.Sx} {Z:ByteArray→List En} {o:ByteArray} {k:Int} {l:List Sm} {e:Ending} (h:ApP F w S p n st Z o k l e w1):Chg F w w1:=by
 rcases h with ⟨h,_⟩|⟨_,_,_,_,_,h⟩
 · exact Chg.of_below h
 obtain ⟨F',st',news,_,h2,_⟩:=h
 exact h2
theorem ApV.chg {F:Nat→Prop} {d r n:Nat} {st:K.Sx} {E:List De} {o:ByteArray} {k:Int} {A l:List Sm} {a b lf:Nat} {e:Ending} (h:ApV F w d r n st E o k A l a b lf e w1):Chg F w w1:=by
 rcases h with ⟨h,_⟩|⟨_,_,_,_,_,h⟩
 · exact Chg.of_below h
 obtain ⟨F',st',E',sl',_,h2,_⟩:=h
 exact h2
def WXH (w0:World) (v:Nat) (P S R D n:Nat→Nat) (T:Nat) (H:Nat→Nat→Prop) (Ll Lc:List Value) (b:Nat) (w:World):Prop:=∃st su Z E F H' vl vc,WK w0 w v P S R D n st su Z E F H' vl vc Ll Lc∧(∀k,k<2→EqK (n k) (st k) (su k) (Z k) (E k))∧(∀k,k<2→(E k).length≤T)∧∀i,i<b→(∀j,j<2→¬H j i)→∀j,j<2→¬H' j i
theorem WXH.wx {b g:Nat} (h:WXH w0 v P S R D n T H Ll Lc b w) (hg:g<b) (hH:∀j,j<2→¬H j g) (hl:¬OB Ll g) (hc:¬OB Lc g) (ht:Tg w g 53) (hlo:w0.heap.size≤g) (k:Chg (fun i=>i=g) w w1):WX w0 v P S R D n T w1:=by
 obtain ⟨st,su,Z,E,F,H',vl,vc,h1,h2,h3,h4⟩:=h
 exact ⟨st,su,Z,E,F,H',vl,vc,Ll,Lc,h1.chg k (fun i e=>by rw [show i=g from e];exact hlo) (fun i e _=>by rw [show i=g from e];exact ⟨.inl ht,fun j hj=>h4 g hg hH j hj,hl,hc⟩),h2,h3⟩
theorem ap_both (h:WK w0 w v P S R D n st su Z E F H vl vc Ll Lc) (hE:∀k,k<2→EqK (n k) (st k) (su k) (Z k) (E k)) (hT:∀k,k<2→(E k).length≤T) (hk:k<2) {o:ByteArray} {id:Int} {l:List Sm} {e e':Ending}
 (h1:ApP (F k) w (S k) (P k) (n k) (st k) (Z k) o id l e w1)
 (h2:ApV (H k) w1 (D k) (R k) (n k) (su k) (E k) o id (enL (zE (E k) o) id).2 l (gO (gF (enL (zE (E k) o) id).2)).length (gO (gF ((enL (zE (E k) o) id).2++l))).length (n k - (K.tkL (su k) (n k)).length) e' w2):
 e'=e∧(∃c:Int,e=.returned (.int .i64 c))∧WXH w0 v P S R D n (T+1) H Ll Lc w1.heap.size w2:=by
 have hz:=(h.sq k hk).sz
 have hy:=(h.dq k hk).sz
 have he:=(hE k hk).eqv
 have hc:=(hE k hk).cnt
 have heq:=he.smp (hz.key o) (hy.key o) id
 obtain ⟨hn1,hn2⟩:=hz.need o id l
 rw [←heq,←hc] at h2
 have hno:Below w.heap.size w w1→Below w1.heap.size w1 w2→WXH w0 v P S R D n (T+1) H Ll Lc w1.heap.size w2:=fun b1 b2=>⟨st,su,Z,E,F,H,vl,vc,(h.later b1).later b2,hE,fun j hj=>by have:=hT j hj;omega,fun _ _ h=>h⟩
 rcases h1 with ⟨b1,h1⟩|⟨a1,a2,a3,a4,rfl,h1⟩ <;> rcases h2 with ⟨b2,h2⟩|⟨c1,c2,c3,c4,rfl,h2⟩
 · rcases h1 with ⟨p1,rfl⟩|⟨p1,p2,rfl⟩|⟨p1,p2,p3,rfl⟩|⟨p1,p2,p3,p4,rfl⟩ <;> rcases h2 with ⟨q1,rfl⟩|⟨q1,q2,rfl⟩|⟨q1,q2,q3,rfl⟩|⟨q1,q2,q3,rfl⟩
   all_goals first
    |exact ⟨rfl,⟨_,rfl⟩,hno b1 b2⟩
    |(exfalso;omega)
    |(exfalso;exact p2 q2)
    |(exfalso;exact q2 p2)
    |(exfalso;exact p3 q3)
    |(exfalso;rw [p3,List.append_nil] at q3;omega)
 · exfalso
   rcases h1 with ⟨p1,rfl⟩|⟨p1,p2,rfl⟩|⟨p1,p2,p3,rfl⟩|⟨p1,p2,p3,p4,rfl⟩
   · omega
   · exact p2 c2
   · exact c3 p3
   omega
 · exfalso
   rcases h2 with ⟨q1,rfl⟩|⟨q1,q2,rfl⟩|⟨q1,q2,q3,rfl⟩|⟨q1,q2,q3,rfl⟩
   · omega
   · exact q2 a2
   · omega
   exact a3 q3
 obtain ⟨F',st',news,g1,g2,g3,g4,g5⟩:=h1
 obtain ⟨H',su',E',sl',k1,k2,k3,k4,k5,k6⟩:=h2
 have hW1:=h.scall hk g1 g2 g3
 have hW2:=hW1.dcall hk k1 k2 k3
 refine ⟨rfl,⟨_,rfl⟩,_,_,_,_,_,_,_,_,hW2,fun j hj=>?_,fun j hj=>?_,fun i hi hh j hj hx=>?_⟩
 · by_cases e:j=k
   · subst e
     rw [zar,zar,zar,zar]
     refine ⟨?_,?_⟩
     · refine Eqv.perm ?_ k5
       exact he.set o id rfl
     rw [g4,k4,hc,hn2]
   rw [zaj _ _ e,zaj _ _ e,zaj _ _ e,zaj _ _ e]
   exact hE j hj
 · by_cases e:j=k
   · subst e
     rw [zar]
     have:=hT j hj
     omega
   rw [zaj _ _ e]
   have:=hT j hj
   omega
 by_cases e:j=k
 · subst e
   rw [zar] at hx
   rcases k3 i hx with h9|h9
   · exact hh j hj h9
   omega
 rw [zaj _ _ e] at hx
 exact hh j hj hx
end
theorem NdP.ex (k:Int) (sl:List Nat) (A l:List Sm):∃a c:Int,NdP k sl A l (.returned (.tuple #[.int .i64 a,.int .i64 c])):=by
 unfold NdP
 by_cases h1:k<0
 · exact ⟨_,_,.inl ⟨h1,rfl⟩⟩
 by_cases h2:Ris (A++l)
 · exact ⟨_,_,.inr (.inr ⟨by omega,h2,rfl⟩)⟩
 exact ⟨_,_,.inr (.inl ⟨by omega,h2,rfl⟩)⟩
theorem NdP.one {k:Int} {sl:List Nat} {A l:List Sm} {e e':Ending} (h1:NdP k sl A l e) (h2:NdP k sl A l e'):e'=e:=by
 unfold NdP at h1 h2
 rcases h1 with ⟨a1,a2⟩|⟨a1,a2,a3⟩|⟨a1,a2,a3⟩ <;> rcases h2 with ⟨b1,b2⟩|⟨b1,b2,b3⟩|⟨b1,b2,b3⟩
 all_goals first
  |(exfalso;omega)
  |exact absurd b2 a2
  |exact absurd a2 b2
  |(rw [a2,b2];done)
  |(rw [a3,b3];done)
theorem dk_all {w0:World} {v:Nat} {P S R D n:Nat→Nat} {T:Nat} {st su:Nat→K.Sx} {Z:Nat→ByteArray→List En} {E:Nat→List De} {F H:Nat→Nat→Prop} {vl vc:Value} {Ll Lc:List Value} {k ob y j:Nat} {o:ByteArray} {cs:List Value} {wx:World} (hk:k<2) (h:if j=0 then Dk0 w0 v P S R D n st su Z E F H vl vc Ll Lc ob cs wx else if j=1 then Dk1 w0 v P S R D n st su Z E F H vl vc Ll Lc k o ob cs wx else Dk2 w0 v P S R D n T k y ob cs wx):
 (wx.cell? ⟨v,k,none⟩=some (.pointer (some ⟨P k,0,none⟩))∧wx.cell? ⟨v,2+k,none⟩=some (.pointer (some ⟨S k,0,none⟩))∧wx.cell? ⟨v,4+k,none⟩=some (.pointer (some ⟨R k,0,none⟩))∧wx.cell? ⟨v,6+k,none⟩=some (.pointer (some ⟨D k,0,none⟩)))∧Blk wx ob 48 cs:=by
 by_cases h0:j=0
 · rw [if_pos h0] at h
   exact ⟨h.1.cp hk,h.2⟩
 rw [if_neg h0] at h
 by_cases h1:j=1
 · rw [if_pos h1] at h
   obtain ⟨F1,gv,a,b,c⟩:=h
   exact ⟨a.cp hk,c⟩
 rw [if_neg h1] at h
 exact h.cp hk
section
variable {w0 w:World} {v:Nat} {P S R D n:Nat→Nat} {T:Nat}
theorem stepP2 (w:World) (h:WX w0 v P S R D n T w) (hT:T≤1000) (s:Stq) (hs:s.kd=2) (hon:-9223372036854775808≤s.on∧s.on≤9223372036854775807) (L:List Sm) (hL:Ss w0 s.la L) (hN:L.length=s.ln) (hlc:s.ln≤s.lc) (hno:s.la=none→L=[]∧s.lc=0):
 Calls Tryz.prog 10 #[pV v,.agg s.cells.toArray] w fun e w'=>e=.returned (.bool true)∧WX w0 v P S R D n T w':=by
 have HX:=zaa h
 obtain ⟨st,su,Z,E,F,H,vl,vc,Ll,Lc,hW,hE,hTT⟩:=h
 obtain ⟨kd,on,id,o,la,ln,lc,f,t,ca,cn,cc⟩:=s
 dsimp only at*
 subst hs
 have hz:∀z,la=some z→L≠[]→z.block<w0.heap.size:=fun z hz hn=>by
  obtain ⟨b,off,e,hb,_⟩:=hL.at' hn
  rw [hz] at e
  cases e
  exact hb
 have hND:Hid (∀(k:Nat) (hk:k<2) (q:Nat) (hq:q≤600) (hq2:q≤ln),∃a c:Int,∀(wx:World),Below w.heap.size w wx→(Calls Tryz.prog 14 #[.pointer (some ⟨S k,0,none⟩),.string o,.int .i64 id,.slice la q lc] wx fun e w2=>e=.returned (.tuple #[.int .i64 a,.int .i64 c])∧Lat wx w2)∧(Calls Tryz.prog 23 #[.pointer (some ⟨D k,0,none⟩),.string o,.int .i64 id,.slice la q lc] wx fun e w2=>e=.returned (.tuple #[.int .i64 a,.int .i64 c])∧Lat wx w2)∧wx.cell? ⟨v,2+k,none⟩=some (.pointer (some ⟨S k,0,none⟩))∧wx.cell? ⟨v,6+k,none⟩=some (.pointer (some ⟨D k,0,none⟩))):=zaa (by
  intro k hk q hq hq2
  obtain ⟨a,c,hac⟩:=NdP.ex id (enL (Z k o) id).1 (enL (Z k o) id).2 (L.take q)
  refine ⟨a,c,fun wx hb=>?_⟩
  have hw:=hW.later hb
  have hLs:Ss wx la (L.take q):=Ss.pre (m:=L.drop q) (by rw [List.take_append_drop];exact hL.bel hw.bel (fun x hx hn=>hz x hx hn))
  have hlen:(L.take q).length=q:=by rw [List.length_take];omega
  have hEk:=hTT k hk
  have hn:=hW.nn k hk
  have hsm:=(hW.dq k hk).sz.smps o id
  have heq:=(hE k hk).eqv.smp ((hW.sq k hk).sz.key o) ((hW.dq k hk).sz.key o) id
  refine ⟨(needsP o id (F k) (S k) (P k) (n k) (st k) (Z k) la q lc (L.take q) wx (hw.sq k hk) hw.gv (by have:=hw.bel.size;have:=hw.lo2;omega) hLs hlen (by omega)).mono ?_,(needsQ o id (H k) (D k) (n k) (su k) (E k) wx (hw.dq k hk).dq (by omega) (by omega) la q lc (L.take q) hLs hlen (by omega) (fun e=>⟨by rw [(hno e).1];simp,(hno e).2⟩)).mono ?_,(hw.cp hk).2.1,(hw.cp hk).2.2.2⟩
  · rintro e w2 ⟨b2,h1⟩
    exact ⟨hac.one h1,b2⟩
  rintro e w2 ⟨h1,b2⟩
  exact ⟨(need_both (hW.sq k hk).sz (hW.dq k hk).sz (hE k hk).eqv o id _ hac h1).1,b2⟩)
 clear hW hE hTT hL hN hno hz
 unfold pV at*
 go_enter Tryz.func10,Tryz.ntmps10
 go_wp2_with (first
  |(refine zac rfl 48 (.tmp 1) rfl [.int .i64 2,.int .i64 on,.int .i64 id,.string o,.slice la ln lc,.int .i64 f,.int .i64 t,.slice ca cn cc] rfl ?_
    intro w1 B1 bl1 hz1
    have BL1:=zaa bl1
    have HB1:=zaa B1
    have d0:w1.cell? ⟨w.heap.size,0,none⟩=some (.int .i64 2):=B1.cell 0
    have d1:w1.cell? ⟨w.heap.size,1,none⟩=some (.int .i64 on):=B1.cell 1
    clear B1 bl1))
 refine (zfi on 2 (by omega) (by omega) hon w1).mono ?_
 rintro e w9 ⟨⟨k,hk,rfl⟩,hw9⟩
 rw [hw9]
 clear hw9
 have hk2:k<2:=by omega
 obtain ⟨q,hq⟩:∃q,min ln 600=q:=⟨_,rfl⟩
 have hqz:(¬(600:Int)<(ln:Int)∧q=ln)∨((600:Int)<(ln:Int)∧q=600):=by omega
 have hqc:(q:Int)≤(lc:Int):=by omega
 obtain ⟨a,c,hac⟩:=hND.out k hk2 q (by omega) (by omega)
 have HAC:=zaa (fun (wx:World) (hl:Lat w1 wx)=>hac wx (BL1.out.trans (Below.mono hl BL1.out.size)))
 have hB1:=HB1.out
 clear hND hac hq
 go_upto_region 6 with fail
 refine st_r6 v w.heap.size k ln lc q (S k) la o id a c w1 _ _ (by rfl) (by rfl) (by rfl) (by rfl) (by omega) (by omega) (by omega) hqc (fun wx hl=>(HAC.out wx hl).2.2.1) (fun wx hl=>(hB1.later hl).cell 2) (fun wx hl=>(hB1.later hl).cell 3) (fun wx hl=>(hB1.later hl).cell 4) (fun wx hl=>(HAC.out wx hl).1) ?_
 intros
 rename_i w2 hL2
 simp only [Act.put,List.setIfInBounds_toArray,List.set_cons_succ,List.set_cons_zero]
 have HL2:=zaa hL2
 clear hL2
 go_upto_region 7 with fail
 refine st_r7 v w.heap.size k ln lc q (D k) la o id a c w2 _ _ (by rfl) (by rfl) (by rfl) (by rfl) (by omega) (by omega) (by omega) hqc (fun wx hl=>(HAC.out wx (HL2.out.trans _ _ _ hl)).2.2.2) (fun wx hl=>(hB1.later (HL2.out.trans _ _ _ hl)).cell 2) (fun wx hl=>(hB1.later (HL2.out.trans _ _ _ hl)).cell 3) (fun wx hl=>(hB1.later (HL2.out.trans _ _ _ hl)).cell 4) (fun wx hl=>(HAC.out wx (HL2.out.trans _ _ _ hl)).2.1) ?_
 intros
 rename_i w3 hL3
 simp only [Act.put,List.setIfInBounds_toArray,List.set_cons_succ,List.set_cons_zero]
 have HX3:=zaa (HX.out.later (BL1.out.trans (Below.mono (Lat.trans _ _ _ HL2.out hL3) BL1.out.size)))
 clear hL3
 go_wp2_with fail
 go_ret
 exact ⟨rfl,HX3.out⟩
theorem stepP6 (w:World) (h:WX w0 v P S R D n T w) (hT:T≤1000) (s:Stq) (hs:s.kd=6) (hon:-9223372036854775808≤s.on∧s.on≤9223372036854775807):
 Calls Tryz.prog 10 #[pV v,.agg s.cells.toArray] w fun e w'=>e=.returned (.bool true)∧WX w0 v P S R D n T w':=by
 obtain ⟨st,su,Z,E,F,H,vl,vc,Ll,Lc,hW,hE,hTT⟩:=h
 have HW:=zaa hW
 have HE:=zaa hE
 have HTT:=zaa hTT
 obtain ⟨kd,on,id,o,la,ln,lc,f,t,ca,cn,cc⟩:=s
 dsimp only at*
 subst hs
 clear hW hE hTT
 unfold pV at*
 go_enter Tryz.func10,Tryz.ntmps10
 go_wp2_with (first
  |(refine zac rfl 48 (.tmp 1) rfl [.int .i64 6,.int .i64 on,.int .i64 id,.string o,.slice la ln lc,.int .i64 f,.int .i64 t,.slice ca cn cc] rfl ?_
    intro w1 B1 bl1 hz1
    have BL1:=zaa bl1
    have HB1:=zaa B1
    have d0:w1.cell? ⟨w.heap.size,0,none⟩=some (.int .i64 6):=B1.cell 0
    have d1:w1.cell? ⟨w.heap.size,1,none⟩=some (.int .i64 on):=B1.cell 1
    clear B1 bl1))
 refine (zfi on 2 (by omega) (by omega) hon w1).mono ?_
 rintro e w9 ⟨⟨k,hk,rfl⟩,hw9⟩
 rw [hw9]
 clear hw9
 have hk2:k<2:=by omega
 have HW1:=zaa (HW.out.later BL1.out)
 have hI0:=zaa (fun (wx:World) (hl:Below w1.heap.size w1 wx)=>(⟨HW1.out.later hl,HB1.out.later hl⟩:Dk0 w0 v P S R D n st su Z E F H vl vc Ll Lc w.heap.size [.int .i64 6,.int .i64 on,.int .i64 id,.string o,.slice la ln lc,.int .i64 f,.int .i64 t,.slice ca cn cc] wx))
 clear HW HB1 BL1
 go_upto_region 17 with fail
 refine st_r17 v w.heap.size k (P k) (S k) (R k) (D k) o (((Z k o).flatMap slF).length:Int) ((yD (st k) (n k) o:Nat):Int)
  (fun j wx=>if j=0 then Dk0 w0 v P S R D n st su Z E F H vl vc Ll Lc w.heap.size [.int .i64 6,.int .i64 on,.int .i64 id,.string o,.slice la ln lc,.int .i64 f,.int .i64 t,.slice ca cn cc] wx else if j=1 then Dk1 w0 v P S R D n st su Z E F H vl vc Ll Lc k o w.heap.size [.int .i64 6,.int .i64 on,.int .i64 id,.string o,.slice la ln lc,.int .i64 f,.int .i64 t,.slice ca cn cc] wx else Dk2 w0 v P S R D n T k (yD (st k) (n k) o) w.heap.size [.int .i64 6,.int .i64 on,.int .i64 id,.string o,.slice la ln lc,.int .i64 f,.int .i64 t,.slice ca cn cc] wx)
  w1 _ _ (by rfl) (by rfl) (by rfl) (by rfl) (by omega) (by omega) ?cP ?cS ?cR ?cD ?o3 (hI0.out _ ((Below.refl _ _).drew)) (fun wx hx=>Dk0.drop hk2 wx hx) (fun wx hx=>Dk1.drop hk2 HW1.out HE.out HTT.out hT wx hx) (fun wx hx=>hx) (fun wx hx=>(Dk2.left hk2 wx hx).1) (fun wx hx=>(Dk2.left hk2 wx hx).2) ?hQ
 case hQ=>
  intros
  rename_i w3 hI
  have HX3:=zaa (Dk2.wx hI)
  simp only [Act.put,List.setIfInBounds_toArray,List.set_cons_succ,List.set_cons_zero]
  clear hI hI0
  go_wp2_with fail
  go_ret
  exact ⟨rfl,HX3.out⟩
 all_goals
  rintro wx ⟨j,hj,hI⟩
  have hI2:=dk_all hk2 hI
  first
   |exact hI2.1.1
   |exact hI2.1.2.1
   |exact hI2.1.2.2.1
   |exact hI2.1.2.2.2
   |exact hI2.2.cell 3
end
theorem LyV.form {F:Nat→Prop} {w w1:World} {S p n:Nat} {st:K.Sx} {Z:ByteArray→List En} {o:ByteArray} {k:Int} {C:List (List Int)} {A:List Sm} {X lf:Nat} {e:Ending} (h:LyV F w S p n st Z o k C A X lf e w1):∃c:Int,e=.returned (.int .i64 c):=by
 rcases h with ⟨_,⟨_,rfl⟩|⟨_,_,_,rfl⟩|⟨_,_,_,_,rfl⟩⟩|⟨_,_,_,rfl,_⟩ <;> exact ⟨_,rfl⟩
theorem LyD.form {F:Nat→Prop} {w w1:World} {d r n:Nat} {st:K.Sx} {E:List De} {o:ByteArray} {k:Int} {C:List (List Int)} {A:List Sm} {X lf:Nat} {e:Ending} (h:LyD F w d r n st E o k C A X lf e w1):∃c:Int,e=.returned (.int .i64 c):=by
 rcases h with ⟨_,⟨_,rfl⟩|⟨_,_,_,rfl⟩|⟨_,_,_,_,rfl⟩⟩|⟨_,_,_,rfl,_⟩ <;> exact ⟨_,rfl⟩
theorem LyV.chg {F:Nat→Prop} {w w1:World} {S p n:Nat} {st:K.Sx} {Z:ByteArray→List En} {o:ByteArray} {k:Int} {C:List (List Int)} {A:List Sm} {X lf:Nat} {e:Ending} (h:LyV F w S p n st Z o k C A X lf e w1):Chg F w w1:=by
 rcases h with ⟨h,_⟩|⟨_,_,_,_,l,_,h⟩
 · exact Chg.of_below h
 obtain ⟨F',st',news,_,h2,_⟩:=h
 exact h2
theorem LyD.chg {F:Nat→Prop} {w w1:World} {d r n:Nat} {st:K.Sx} {E:List De} {o:ByteArray} {k:Int} {C:List (List Int)} {A:List Sm} {X lf:Nat} {e:Ending} (h:LyD F w d r n st E o k C A X lf e w1):Chg F w w1:=by
 rcases h with ⟨h,_⟩|⟨_,_,_,_,l,_,h⟩
 · exact Chg.of_below h
 obtain ⟨F',st',E',sl',_,h2,_⟩:=h
 exact h2
section
variable {w0 w w1 w2:World} {v:Nat} {P S R D n:Nat→Nat} {st su:Nat→K.Sx} {Z:Nat→ByteArray→List En} {E:Nat→List De} {F H:Nat→Nat→Prop} {vl vc:Value} {Ll Lc:List Value} {k T:Nat}
theorem lay_both (h:WK w0 w v P S R D n st su Z E F H vl vc Ll Lc) (hE:∀k,k<2→EqK (n k) (st k) (su k) (Z k) (E k)) (hT:∀k,k<2→(E k).length≤T) (hk:k<2) {o:ByteArray} {id:Int} {C:List (List Int)} {X:Nat} {e e':Ending} (hX:C.length=X)
 (h1:LyP (F k) w (S k) (P k) (n k) (st k) (Z k) o id C e w1)
 (h2:LyD (H k) w1 (D k) (R k) (n k) (su k) (E k) o id C (enL (zE (E k) o) id).2 X (n k - (K.tkL (su k) (n k)).length) e' w2):
 e'=e∧(∃c:Int,e=.returned (.int .i64 c))∧WXH w0 v P S R D n (T+1) H Ll Lc w1.heap.size w2:=by
 have hz:=(h.sq k hk).sz
 have hy:=(h.dq k hk).sz
 have he:=(hE k hk).eqv
 have hc:=(hE k hk).cnt
 have heq:=he.smp (hz.key o) (hy.key o) id
 unfold LyP at h1
 rw [←heq,←hc] at h2
 rw [hX] at h1
 have hno:Below w.heap.size w w1→Below w1.heap.size w1 w2→WXH w0 v P S R D n (T+1) H Ll Lc w1.heap.size w2:=fun b1 b2=>⟨st,su,Z,E,F,H,vl,vc,(h.later b1).later b2,hE,fun j hj=>by have:=hT j hj;omega,fun _ _ h=>h⟩
 rcases h1 with ⟨b1,h1⟩|⟨a1,a2,a3,rfl,l,h0,h1⟩ <;> rcases h2 with ⟨b2,h2⟩|⟨c1,c2,c3,rfl,m,k0,h2⟩
 · rcases h1 with ⟨p1,rfl⟩|⟨p1,p2,p3,rfl⟩|⟨p1,p2,p3,p4,rfl⟩ <;> rcases h2 with ⟨q1,rfl⟩|⟨q1,q2,q3,rfl⟩|⟨q1,q2,q3,q4,rfl⟩
   all_goals first
    |exact ⟨rfl,⟨_,rfl⟩,hno b1 b2⟩
    |(exfalso;rcases p1 with p1|p1;omega;exact p1 q2)
    |(exfalso;rcases q1 with q1|q1;omega;exact q1 p2)
    |(exfalso;obtain ⟨l,hl⟩:=p3;exact q3 l hl)
    |(exfalso;obtain ⟨l,hl⟩:=q3;exact p3 l hl)
 · exfalso
   rcases h1 with ⟨p1,rfl⟩|⟨p1,p2,p3,rfl⟩|⟨p1,p2,p3,p4,rfl⟩
   · rcases p1 with p1|p1
     · omega
     exact p1 c2
   · exact p3 m k0
   omega
 · exfalso
   rcases h2 with ⟨p1,rfl⟩|⟨p1,p2,p3,rfl⟩|⟨p1,p2,p3,p4,rfl⟩
   · rcases p1 with p1|p1
     · omega
     exact p1 a2
   · exact p3 l h0
   omega
 obtain ⟨F',st',news,g1,g2,g3,g4,g5⟩:=h1
 obtain ⟨H',su',E',sl',k1,k2,k3,k4,k5,k6⟩:=h2
 have hlm:m=l:=k0.one h0
 subst hlm
 have hsl:(enL (Z k o) id).1=[]:=(hz.en o id).2.2.2.2 a2
 have hW1:=h.scall hk g1 g2 g3
 have hW2:=hW1.dcall hk k1 k2 k3
 refine ⟨rfl,⟨_,rfl⟩,_,_,_,_,_,_,_,_,hW2,fun j hj=>?_,fun j hj=>?_,fun i hi hh j hj hx=>?_⟩
 · by_cases e:j=k
   · subst e
     rw [zar,zar,zar,zar]
     refine ⟨?_,?_⟩
     · refine Eqv.perm ?_ k5
       exact he.set o id (by rw [a2])
     rw [g4,k4,hc,hsl]
     rfl
   rw [zaj _ _ e,zaj _ _ e,zaj _ _ e,zaj _ _ e]
   exact hE j hj
 · by_cases e:j=k
   · subst e
     rw [zar]
     have:=hT j hj
     omega
   rw [zaj _ _ e]
   have:=hT j hj
   omega
 by_cases e:j=k
 · subst e
   rw [zar] at hx
   rcases k3 i hx with h9|h9
   · exact hh j hj h9
   omega
 rw [zaj _ _ e] at hx
 exact hh j hj hx
end
def LbF (w:World) (base:Nat) (B:Nat→Prop) (ad:Option Addr) (C:List (List Int)):Prop:=
 ∀(i:Nat) (b:List Int),C[i]?=some b→∃g off ad' c',ad=some ⟨g,off,none⟩∧g<base∧w.cell? ⟨g,off+i,none⟩=some (.slice ad' b.length c')∧Sl w ad' b.length b∧b.length≤c'∧c'≤maxLen∧(ad'=none→c'=0)∧∀z,ad'=some z→0<b.length→¬B z.block∧z.block<base
def LbM (w:World) (base:Nat) (B:Nat→Prop) (xs:List Value) (C:List (List Int)):Prop:=
 ∀(j:Nat) (b:List Int),C[j]?=some b→∃a c,xs[j]?=some (.slice a b.length c)∧Sl w a b.length b∧b.length≤c∧c≤maxLen∧(a=none→c=0)∧∀z,a=some z→0<b.length→¬B z.block∧z.block<base
theorem LbM.chg {F:Nat→Prop} {w w':World} {base:Nat} {B:Nat→Prop} {xs:List Value} {C:List (List Int)} (h:LbM w base B xs C) (hc:Chg F w w') (hF:∀i,i<base→¬B i→¬F i):LbM w' base B xs C:=fun j b hb=>by
 obtain ⟨a,c,e1,e2,e3,e4,e5,e6⟩:=h j b hb
 exact ⟨a,c,e1,hc.sl e2 (fun x hx h0=>hF _ (e6 x hx h0).2 (e6 x hx h0).1),e3,e4,e5,e6⟩
theorem LbM.push {w:World} {base:Nat} {B:Nat→Prop} {xs:List Value} {C:List (List Int)} {a:Option Addr} {c:Nat} {b:List Int} (h:LbM w base B xs C) (hl:xs.length=C.length) (h1:Sl w a b.length b) (h2:b.length≤c∧c≤maxLen) (h3:a=none→c=0) (h4:∀z,a=some z→0<b.length→¬B z.block∧z.block<base):LbM w base B (xs++[.slice a b.length c]) (C++[b]):=fun j b' hb=>by
 by_cases e:j<C.length
 · rw [List.getElem?_append_left e] at hb
   rw [List.getElem?_append_left (by omega)]
   exact h j b' hb
 rw [List.getElem?_append_right (by omega)] at hb
 have h0:j - C.length=0:=by
  have:=(List.getElem?_eq_some_iff.1 hb).1
  simpa using this
 rw [h0] at hb
 simp only [List.getElem?_cons_zero,Option.some.injEq] at hb
 subst hb
 refine ⟨a,c,?_,h1,h2.1,h2.2,h3,h4⟩
 rw [List.getElem?_append_right (by omega),show j - xs.length=0 by omega]
 rfl
theorem LbM.lbs {w:World} {base b0:Nat} {B:Nat→Prop} {xs:List Value} {C:List (List Int)} {ad:Option Addr} {n c:Nat} (h:LbM w base B xs C) (hO:w.ownsRow b0 84 1 (.slice ad n c) n xs) (hn:C.length=n):Lbs w ad C:=fun i b hb=>by
 have hi:=(List.getElem?_eq_some_iff.1 hb).1
 obtain ⟨a,c9,e1,e2,e3,e4,e5,_⟩:=h i b hb
 obtain ⟨g,rfl,_⟩:=zbc hO (by omega)
 exact ⟨g,0,a,c9,rfl,za0 hO g rfl,by rw [Nat.zero_add];exact zai hO i _ e1,e2,e3,e4,e5⟩
theorem info5p:∃i,Tryz.prog.info? 5=some i∧i.zero=some (.int .u8 0)∧i.size=1∧i.bytes=1:=K.info_parts (show (Tryz.prog.info? 5).map (fun i=>(i.zero,i.size,i.bytes))=some (some (.int .u8 0),1,1) by kernel_rfl)
theorem wpList_copyB (w:World) {ops:Array Oper} {rest:List Oper} {o:Oper} {a:Act} {Q:Exit→Act→World→Prop} (hgd:o.guard=none) (s x:Operand)
 (ho:o.op=.call { callee:=.builtin .append,args:=#[s,x],argTypes:=#[84,84] }) (g:Nat) (hs:a.eval s=.slice (some ⟨g,0,none⟩) 0 0) (hB:Blk w g 5 [])
 (ad:Option Addr) (m c:Nat) (l:List Int) (hx:a.eval x=.slice ad m c) (hL:Sl w ad m l) (hno:ad=none→c=0) (hm:m≤1000000)
 (h:∀g' c' w',K.Rw w' 5 (.slice (some ⟨g',0,none⟩) m c') (zae l)→g≤g'→Chg (fun i=>i=g) w w'→wpList Tryz.prog ops Q rest (a.put o.dst (.slice (some ⟨g',0,none⟩) m c')) w'):wpList Tryz.prog ops Q (o :: rest) a w:=by
 obtain ⟨i0,hi0,hz0,hz1,hz2⟩:=info5p
 have hown:w.ownsRow g 5 1 (.slice (some ⟨g,0,none⟩) 0 0) 0 []:=⟨rfl,.inr ⟨g,0,#[],rfl,Nat.le_refl _,hB,Nat.le_refl _,by unfold maxLen;omega,rfl,rfl⟩⟩
 have hlen:=hL.len
 cases ad with
 |none=>
  have hc0:=hno rfl
  have hm0:m=0:=by
   rcases Nat.eq_zero_or_pos m with e|e
   · exact e
   obtain ⟨x,hx,_⟩:=hL.cell 0 e
   cases hx
  subst hc0 hm0
  obtain rfl:l=[]:=List.eq_nil_of_length_eq_zero hlen
  refine wpList_append_own_none hgd s x 84 ho g 5 i0 1 Tryz.underlying84 hi0 _ 0 _ hs hown hx ?_
  exact h g 0 w (K.Rw.of_owns (xs:=[]) hown) (Nat.le_refl _) (Chg.refl _ _)
 |some ad=>
  refine wpList_append_own w hgd s x 84 ho g 5 i0 (.int .u8 0) 1 1 Tryz.underlying84 hi0 hz0 hz1 hz2 rfl (by decide) _ 0 [] hs hown ad m c (zae l) hx (by rw [zaf,hlen,Nat.mul_one]) hL.cells (zce l) (by unfold maxLen;omega) (by omega) (Nat.le_of_lt hB.lt) ?_
  intro v' w' h1 h2 h3
  rw [Nat.zero_add,List.nil_append] at h1
  obtain ⟨a',c',rfl⟩:=zal h1
  have hsome:∃g',a'=some ⟨g',0,none⟩∧g≤g':=by
   rcases h1.2 with ⟨h9,hm0⟩|⟨g',cap,cur,e,hb,_⟩
   · exfalso
     have:=(h3.1 (by simpa using h9)).1
     cases this
   simp only [Value.slice.injEq] at e
   exact ⟨g',e.1,hb⟩
  obtain ⟨g',rfl,hg'⟩:=hsome
  refine h g' c' w' ?_ hg' ?_
  · have h9:=h1
    rw [←hlen,←zaf l] at h9
    have h8:=K.Rw.of_owns h9
    rw [zaf,hlen] at h8
    exact h8
  exact Chg.of_grown h2 (fun i hi=>by cases hi;rfl)
theorem CkW.ck' {w:World} {base:Nat} {v:Value} {L:List (List Int)} {us:List Value} (h:CkW w base v L us):Ck w base v L (fun i=>∃u∈us,u.ownBlock=some i):=by
 refine ⟨fun i hi=>?_,fun g hg hi=>?_,us,h.row,fun i b hb=>?_⟩
 · obtain ⟨u,hu,e⟩:=hi
   exact ⟨(h.blk hu e).2,(h.blk hu e).1.lt⟩
 · obtain ⟨u,hu,e⟩:=hi
   have:=(zab h.row g hg).one (h.blk hu e).1
   cases this
 obtain ⟨g,c,e1,e2,e3,e4⟩:=h.each i b hb
 have hl:=e2.lens
 rw [zaf] at hl
 refine ⟨some ⟨g,0,none⟩,c,e1,⟨rfl,e4,fun j hj=>⟨⟨g,0,none⟩,rfl,?_⟩⟩,hl.2,?_,fun x hx=>⟨_,List.mem_of_getElem? e1,by cases hx;rfl⟩⟩
 · rw [Addr.add_lit,Nat.zero_add]
   exact e2.cell (by simp [zae,List.getD,hj])
 rcases e2 with ⟨h0,_⟩|⟨g',cap,cur,mk,hv,_,_,_,_,hm,_⟩
 · cases h0
 simp only [Value.slice.injEq] at hv
 rw [hv.2.2]
 exact hm
theorem CkW.lbs {w:World} {base n c:Nat} {ad:Option Addr} {L:List (List Int)} {us:List Value} (h:CkW w base (.slice ad n c) L us) (hn:L.length=n):Lbs w ad L:=fun i b hb=>by
 have hi:=(List.getElem?_eq_some_iff.1 hb).1
 obtain ⟨g,c9,e1,e2,_,e4⟩:=h.each i b hb
 have hl:=e2.lens
 rw [zaf] at hl
 have hO:=h.row
 rw [hn] at hO
 obtain ⟨g0,rfl,_⟩:=zbc hO (by omega)
 refine ⟨g0,0,_,c9,rfl,za0 hO g0 rfl,by rw [Nat.zero_add];exact zai hO i _ e1,⟨rfl,e4,fun j hj=>⟨⟨g,0,none⟩,rfl,?_⟩⟩,hl.2,?_,fun e=>by cases e⟩
 · rw [Addr.add_lit,Nat.zero_add]
   exact e2.cell (by simp [zae,List.getD,hj])
 rcases e2 with ⟨h0,_⟩|⟨g',cap,cur,mk,hv,_,_,_,_,hm,_⟩
 · cases h0
 simp only [Value.slice.injEq] at hv
 rw [hv.2.2]
 exact hm
def cutC (C:List (List Int)):List (List Int):=(C.take 40).map (·.take 200)
theorem zes (C:List (List Int)):(cutC C).length=min 40 C.length:=by simp [cutC]
theorem cutC_at {C:List (List Int)} {i:Nat} {b:List Int} (h:C[i]?=some b) (hi:i<40):(cutC C).take (i+1)=(cutC C).take i++[b.take 200]:=by
 have:(cutC C)[i]?=some (b.take 200):=by
  unfold cutC
  rw [List.getElem?_map,List.getElem?_take_of_lt hi,h]
  rfl
 rw [List.take_add_one,this]
 rfl
theorem rw_sl {w:World} {g c n:Nat} {b:List Int} (h:K.Rw w 5 (.slice (some ⟨g,0,none⟩) n c) (zae b)) (hn:b.length=n) (hb:Byte b):Sl w (some ⟨g,0,none⟩) n b:=by
 subst hn
 refine ⟨rfl,hb,fun j hj=>⟨⟨g,0,none⟩,rfl,?_⟩⟩
 rw [Addr.add_lit,Nat.zero_add]
 exact h.cell (by simp [zae,List.getD,hj])
theorem WXH.wxs {w0 w w1:World} {v:Nat} {P S R D n:Nat→Nat} {T:Nat} {H:Nat→Nat→Prop} {Ll Lc:List Value} {b:Nat} {G:Nat→Prop} (h:WXH w0 v P S R D n T H Ll Lc b w) (hG:∀i,G i→w0.heap.size≤i∧i<b∧(∀j,j<2→¬H j i)∧¬OB Ll i∧¬OB Lc i∧Tg w i 5) (k:Chg G w w1):WX w0 v P S R D n T w1:=by
 obtain ⟨st,su,Z,E,F,H',vl,vc,h1,h2,h3,h4⟩:=h
 exact ⟨st,su,Z,E,F,H',vl,vc,Ll,Lc,h1.chg k (fun i e=>(hG i e).1) (fun i e _=>by
  obtain ⟨_,q2,q3,q4,q5,q6⟩:=hG i e
  exact ⟨.inr q6,fun j hj=>h4 i q2 q3 j hj,q4,q5⟩),h2,h3⟩
section
variable {w0:World} {v:Nat} {P S R D n:Nat→Nat} {st su:Nat→K.Sx} {Z:Nat→ByteArray→List En} {E:Nat→List De} {F H:Nat→Nat→Prop} {vl vc:Value} {Ll Lc:List Value} {T:Nat}
theorem layP (w:World) (hW:WK w0 w v P S R D n st su Z E F H vl vc Ll Lc) (hE:∀k,k<2→EqK (n k) (st k) (su k) (Z k) (E k)) (hTT:∀k,k<2→(E k).length≤T) (hT:T≤1000) (k:Nat) (hk:k<2) (o:ByteArray) (id:Int)
 (ad:Option Addr) (N c:Nat) (C:List (List Int)) (hL:LbF w w.heap.size (fun i=>∃j,j<2∧(F j i∨H j i)) ad C) (hN:C.length=N):
 Calls Tryz.prog 30 #[pV v,.int .i64 (k:Int),.string o,.int .i64 id,.slice ad N c] w fun e w'=>e=.returned (.bool true)∧WX w0 v P S R D n (T+1) w':=by
 have hlo:=hW.lo2
 have HW:=zaa hW
 have HL:=zaa hL
 have HN:=zaa hN
 have hEk:=hTT k hk
 have hAl:=zaa (fun (wx:World) (hb:Below w.heap.size w wx) (la:Option Addr) (X lc:Nat) (us:List Value) (hX:(cutC C).length=X) (hc:CkW wx w.heap.size (.slice la X lc) (cutC C) us)=>slayP o id (F k) (S k) (P k) (n k) (st k) (Z k) la X lc w.heap.size _ (cutC C) wx ((hW.later hb).sq k hk) (hW.later hb).gv (by have:=hb.size;have:=hW.bel.size;omega) (fun i hi=>⟨by have:=hW.lo.2.1 k i hk hi;omega,hW.ltF hk hi⟩) hc.ck' (hc.lbs hX) hX (by have:=zes C;omega) (fun b hb=>by
  obtain ⟨b',_,rfl⟩:=List.mem_map.1 hb
  have:=List.length_take_le 200 b'
  omega))
 have hAq:=zaa (fun (wx:World) (hd:DQr (H k) wx (D k) (R k) (n k) (su k) (E k)) (ma:Option Addr) (X mc:Nat) (hX:(cutC C).length=X) (hl:Lbs wx ma (cutC C))=>layQ o id (H k) (D k) (R k) (n k) (su k) (E k) wx hd (by omega) ma X mc (cutC C) hl hX (by have:=zes C;omega) (fun b hb=>by
  obtain ⟨b',_,rfl⟩:=List.mem_map.1 hb
  exact List.length_take_le 200 b'))
 have hAB:=zaa (fun (wa wb wc:World) (hb:Below w.heap.size w wa) (X:Nat) (hX:(cutC C).length=X) (e e':Ending) (h1:LyP (F k) wa (S k) (P k) (n k) (st k) (Z k) o id (cutC C) e wb) (h2:LyD (H k) wb (D k) (R k) (n k) (su k) (E k) o id (cutC C) (enL (zE (E k) o) id).2 X (n k - (K.tkL (su k) (n k)).length) e' wc)=>lay_both (hW.later hb) hE hTT hk hX h1 h2)
 have hcp:=zaa (fun (wx:World) (hb:Below w.heap.size w wx)=>(hW.later hb).cp hk)
 have hk3:(k:Int)<2:=by omega
 have hk0:¬(k:Int)<0:=by omega
 obtain ⟨i7,hi7,hz7,hs7,hb7⟩:=zcw
 obtain ⟨B,hB⟩:∃B:Nat→Prop,(fun i=>∃j,j<2∧(F j i∨H j i))=B:=⟨_,rfl⟩
 rw [hB] at HL
 have HB:=zaa hB
 clear hW hE hTT hEk hL hN hB
 unfold pV
 go_enter Tryz.func30,Tryz.ntmps30
 go_wp2_with fail
 go_loopw [11,12,13] (fun s11 s12 s13 wx=>∃(i:Nat) (la ma:Option Addr) (lc mc:Nat),s11=.slice la i lc∧s12=.slice ma i mc∧s13=.int .i64 (i:Int)∧i≤N∧i≤40∧Hid (∃us,CkW wx w.heap.size (.slice la i lc) ((cutC C).take i) us)∧Hid (∃xs,wx.ownsRow w.heap.size 84 1 (.slice ma i mc) i xs∧LbM wx w.heap.size B xs ((cutC C).take i))∧Hid (∀x,(Value.slice la i lc).ownBlock=some x→¬(Value.slice ma i mc).ownBlock=some x)∧Hid (Below w.heap.size w wx)) (fun _ _ s13 _=>40 - nOf s13)
 case atStart=>exact ⟨0,none,none,0,0,rfl,rfl,rfl,by omega,by omega,zaa ⟨[],by rw [List.take_zero];exact ⟨World.ownsRow_nil _ _ _ _,fun i b h=>by simp at h,fun i j u u' _ h=>by simp at h⟩⟩,zaa ⟨[],World.ownsRow_nil _ _ _ _,fun j b h=>by simp at h⟩,zaa (fun x h=>by cases h),zaa (Below.refl _ _)⟩
 case round=>
  rename World=>wr
  obtain ⟨i,la,ma,lc,mc,rfl,rfl,rfl,hi,hi4,hC,hM,hap,hBw⟩:=hrel
  by_cases hin:i<N∧i<40
  · have hinz:(i:Int)<(N:Int):=by omega
    have hinz4:(i:Int)<40:=by omega
    have hi0:¬(i:Int)<0:=by omega
    obtain ⟨b,hb⟩:∃b,C[i]?=some b:=⟨C[i]'(by have:=HN.out;omega),List.getElem?_eq_getElem _⟩
    obtain ⟨g,off,a1,c1,rfl,hg,hcell,hsl,hle,hcm,hnn,hz⟩:=HL.out i b hb
    have hcellr:wr.cell? ⟨g,off+i,none⟩=some (.slice a1 b.length c1):=by rw [hBw.out.cell (p:=⟨g,off+i,none⟩) hg];exact hcell
    obtain ⟨q,hq⟩:∃q,min b.length 200=q:=⟨_,rfl⟩
    have hqz:((b.length:Int)≤200∧q=b.length)∨(¬(b.length:Int)≤200∧q=200):=by omega
    have hql:(b.take 200).length=q:=by rw [List.length_take];omega
    have hqc:(q:Int)≤(c1:Int):=by omega
    have hq0:¬(q:Int)<0:=by omega
    have hsq:Hid (Sl wr a1 q (b.take 200)):=zaa (by
     have h9:=Sl.take (hsl.later hBw.out) (N:=q) (by omega)
     rw [show b.take q=b.take 200 by rw [←hq,Nat.min_comm];exact List.take_eq_take_min.symm] at h9
     exact h9)
    have HC9:=zaa (And.intro hle (And.intro hcm (And.intro hnn hz)))
    have HBI:=zaa hb
    have HQL:=zaa hql
    have hq200:q≤200:=by omega
    have hqc':q≤c1:=by omega
    obtain ⟨bl,hbl⟩:∃bl,b.length=bl:=⟨_,rfl⟩
    rw [hbl] at hcellr hqz
    obtain ⟨us,ck⟩:=hC.out
    obtain ⟨xs,o1,lm⟩:=hM.out
    have CK:=zaa ck
    have LM:=zaa (And.intro o1 lm)
    have HBW:=zaa hBw.out
    have htl:Hid (((cutC C).take i).length=i):=zaa (by rw [List.length_take,zes,HN.out];omega)
    clear hcell hsl hle hcm hnn hz hb hql hbl hq ck o1 lm hC hM hBw
    go_upto_region 6 with fail
    go_cut [14] from 29 to 39 (fun s14 wx=>s14=.slice a1 q c1∧Hid (Below wr.heap.size wr wx))
    case first=>
     rcases hqz with ⟨hm1,rfl⟩|⟨hm1,rfl⟩
     all_goals
      go_region_with fail
      all_goals
       go_wp2_with fail
       go_meet
       exact ⟨rfl,zaa (Below.refl _ _).drew⟩
    case rest=>
     rename World=>w3
     obtain ⟨rfl,B3⟩:=hcut
     clear hcellr hqz hqc
     have hs3:=zaa B3.out.size
     have B3w:Hid (Below w.heap.size w w3):=zaa (HBW.out.trans (B3.out.mono HBW.out.size))
     have OM3:Hid (w3.ownsRow w.heap.size 84 1 (.slice ma i mc) i xs):=zaa (owl LM.out.1 B3.out)
     have hi40:i<40:=hin.2
     have CK3:Hid (CkW w3 w.heap.size (.slice la i lc) ((cutC C).take i) us):=zaa (CK.out.chg (Chg.of_below (F:=fun _=>False) B3.out) (fun _ _ e=>e) (fun _ _ _ _ e=>e))
     have LM3:Hid (LbM w3 w.heap.size B xs ((cutC C).take i)):=zaa (LM.out.2.chg (Chg.of_below (F:=fun _=>False) B3.out) (fun _ _ _ e=>e))
     have SQ3:Hid (Sl w3 a1 q (b.take 200)):=zaa (hsq.out.later B3.out)
     clear CK LM hsq
     go_upto_region 8 with (refine zaw _ rfl (.tmp 40) (.tmp 42) 34 rfl 84 i7 (.slice none 0 0) 24 Tryz.underlying34 hi7 hz7 hs7 hb7 rfl w.heap.size (.slice ma i mc) i xs rfl (OM3.out.alloc _) ⟨w3.heap.size,0,none⟩ (.slice a1 q c1) rfl ((Blk.new w3 84 [.slice a1 q c1]).cell 0) rfl (by unfold maxLen;omega) (by omega) (by have:=B3w.out.size;simp;omega) ?_;intro g5 c5 w5 o5 p5;have O5:=zaa (And.intro o5 p5);clear o5 p5)
     have Q5:=zaa O5.out.2.chg
     have hxl:Hid (∀x,(Value.slice la i lc).ownBlock=some x→x<w3.heap.size∧Tg w3 x 84∧w.heap.size≤x):=zaa (fun x hx=>⟨za0 CK3.out.row x hx,zab CK3.out.row x hx,(CK3.out.row.lt x hx).1⟩)
     have hxm:Hid (∀x,(Value.slice ma i mc).ownBlock=some x→x<w3.heap.size∧Tg w3 x 84∧w.heap.size≤x):=zaa (fun x hx=>⟨za0 OM3.out x hx,zab OM3.out x hx,(OM3.out.lt x hx).1⟩)
     have CK5:Hid (CkW w5 w.heap.size (.slice la i lc) ((cutC C).take i) us):=zaa (CK3.out.chg Q5.out.1 hap.out (fun u hu x hx e=>by have h1:=(CK3.out.blk hu hx).1.one (hxm.out x e).2.1;cases h1))
     have hof5:Hid (∀x,(Value.slice la i lc).ownBlock=some x→¬x=g5):=zaa (fun x hx e=>by
      rcases Q5.out.2 with e2|⟨g2,e2,hg2⟩
      · exact hap.out x hx (by rw [←e2,e])
      have:g5=g2:=by simpa [Value.ownBlock] using e2
      have:=(hxl.out x hx).1
      omega)
     have B5w:Hid (Below w.heap.size w w5):=zaa (B3w.out.trans (Q5.out.1.below B3w.out.size (fun x hx=>(hxm.out x hx).2.2)))
     have SQ5:Hid (Sl w5 a1 q (b.take 200)):=zaa (Q5.out.1.sl SQ3.out (fun z hz h0 e=>by have:=(HC9.out.2.2.2 z hz (by have:=HQL.out;rw [List.length_take] at this;omega)).2;have:=(hxm.out _ e).2.2;omega))
     have LM5:Hid (LbM w5 w.heap.size B (xs++[.slice a1 q c1]) ((cutC C).take (i+1))):=zaa (by
      rw [cutC_at HBI.out hi40]
      have h9:=LbM.push (b:=b.take 200) (a:=a1) (c:=c1) (LM3.out.chg Q5.out.1 (fun x hx _ e=>by have:=(hxm.out x e).2.2;omega)) (by have:=OM3.out.1;rw [htl.out];omega) (by rw [HQL.out];exact SQ5.out) (by rw [HQL.out];exact ⟨hqc',HC9.out.2.1⟩) HC9.out.2.2.1 (fun z hz h0=>HC9.out.2.2.2 z hz (by rw [List.length_take] at h0;omega))
      rw [HQL.out] at h9
      exact h9)
     go_wp2_with (first
      |(refine wpList_copyB _ rfl (.tmp 45) (.tmp 46) rfl w5.heap.size rfl (Blk.new w5 5 []) a1 q c1 (b.take 200) rfl (SQ5.out.later ((Below.refl _ _).alloc (Nat.le_refl _) _)) HC9.out.2.2.1 (by omega) ?_
        intro g7 c7 w7 r7 hg7 ch7
        have R7:=zaa r7
        have B7:Hid (Below w5.heap.size w5 w7):=zaa (((Below.refl _ _).alloc (Nat.le_refl _) _).trans (ch7.below (by simp) (fun x hx=>by rw [show x=_ from hx];exact Nat.le_refl _)))
        have OL7:Hid (w7.ownsRow w.heap.size 84 1 (.slice la i lc) i us):=zaa (by have h9:=owl CK5.out.row B7.out;rw [htl.out] at h9;exact h9)
        clear r7 ch7)
      |(refine zaw _ rfl (.tmp 44) (.tmp 48) 34 rfl 84 i7 (.slice none 0 0) 24 Tryz.underlying34 hi7 hz7 hs7 hb7 rfl w.heap.size (.slice la i lc) i us rfl (OL7.out.alloc _) ⟨w7.heap.size,0,none⟩ (.slice (some ⟨g7,0,none⟩) q c7) rfl ((Blk.new w7 84 [.slice (some ⟨g7,0,none⟩) q c7]).cell 0) rfl (by unfold maxLen;omega) (by omega) (by have:=B5w.out.size;have:=B7.out.size;simp;omega) ?_;intro g9 c9 w9 o9 p9;have O9:=zaa (And.intro o9 p9);clear o9 p9))
     have Q9:=zaa O9.out.2.chg
     have s57:=B7.out.size
     have hg5:g5<w5.heap.size:=za0 O5.out.1 g5 rfl
     have HC9':=CkW.push (b:=b.take 200) CK5.out B5w.out.size B7.out (by rw [HQL.out];exact R7.out) hg7 SQ5.out.byte (by rw [htl.out,HQL.out];exact O9.out.1) O9.out.2
     rw [htl.out,←cutC_at HBI.out hi40] at HC9'
     have HCN:=zaa HC9'
     have HMN:=zaa (Q9.out.1.owns (owl O5.out.1 B7.out) (fun g hg e=>hof5.out g e (by cases hg;rfl)))
     have HLN:=zaa ((LM5.out.chg (Chg.of_below (F:=fun _=>False) B7.out) (fun _ _ _ e=>e)).chg Q9.out.1 (fun x hx _ e=>by have:=(hxl.out x e).2.2;omega))
     have HAN:Hid (∀x,(Value.slice (some ⟨g9,0,none⟩) (i+1) c9).ownBlock=some x→¬(Value.slice (some ⟨g5,0,none⟩) (i+1) c5).ownBlock=some x):=zaa (fun x hx e=>by
      have e1:g9=x:=by simpa [Value.ownBlock] using hx
      have e3:g5=x:=by simpa [Value.ownBlock] using e
      rcases Q9.out.2 with e2|⟨g2,e2,hg2⟩
      · exact hof5.out x (by rw [←e2];exact hx) e3.symm
      have:g9=g2:=by simpa [Value.ownBlock] using e2
      omega)
     have HBN:Hid (Below w.heap.size w w9):=zaa ((B5w.out.trans (B7.out.mono B5w.out.size)).trans (Q9.out.1.below (Nat.le_trans B5w.out.size B7.out.size) (fun x hx=>(hxl.out x hx).2.2)))
     clear HC9'
     refine ⟨⟨i+1,some ⟨g9,0,none⟩,some ⟨g5,0,none⟩,c9,c5,by first|rfl|simp,by first|rfl|simp,by first|rfl|simp,by omega,by omega,zaa ⟨_,HCN.out⟩,zaa ⟨_,HMN.out,HLN.out⟩,HAN,HBN⟩,?_⟩
     simp [nOf]
     omega
  obtain ⟨X,hX⟩:∃X,(cutC C).length=X:=⟨_,rfl⟩
  have hiX:i=X:=by rw [←hX,zes,HN.out];omega
  subst hiX
  have htk:(cutC C).take i=cutC C:=List.take_of_length_le (by omega)
  rw [htk] at hC hM
  have HX:=zaa hX
  have hend:((i:Int)<(N:Int)∧¬(i:Int)<40)∨¬(i:Int)<(N:Int):=by omega
  obtain ⟨us,ck⟩:=hC.out
  obtain ⟨xs,o1,lm⟩:=hM.out
  have CK:=zaa ck
  have OM:=zaa o1
  have LM:=zaa lm
  have kc:=(hcp.out wr hBw.out).2.1
  have HAL:=zaa (hAl.out wr hBw.out la i lc us hX ck)
  clear hC hM hap htk hX ck o1 lm hAl
  rcases hend with ⟨hst,hst2⟩|hst
  all_goals
   go_wp2_with fail
   refine HAL.out.mono ?_
   rintro e w5 h5
   obtain ⟨ca,rfl⟩:=LyV.form h5
   have hWa:=HW.out.later hBw.out
   have hc5:Chg (F k) wr w5:=LyV.chg h5
   have hnF:∀x,w.heap.size≤x→¬F k x:=fun x hx e=>by have:=HW.out.ltF hk e;omega
   have hnH:∀x,w.heap.size≤x→¬H k x:=fun x hx e=>by have:=HW.out.ltH hk e;omega
   have hD5:=(hWa.dq k hk).chg hc5 (fun i hi hf=>hWa.fh k k hk hk i hf hi)
   have CK5:Hid (CkW w5 w.heap.size (.slice la i lc) (cutC C) us):=zaa (CK.out.chg hc5 (fun g hg=>hnF g (CK.out.row.lt g hg).1) (fun u hu g hg=>hnF g (CK.out.blk hu hg).2))
   have OM5:Hid (w5.ownsRow w.heap.size 84 1 (.slice ma i mc) i xs):=zaa (hc5.owns OM.out (fun g hg=>hnF g (OM.out.lt g hg).1))
   have LM5:Hid (LbM w5 w.heap.size B xs (cutC C)):=zaa (LM.out.chg hc5 (fun x _ hn hf=>hn (by rw [←HB.out];exact ⟨k,hk,.inl hf⟩)))
   have hkc5:w5.cell? ⟨v,6+k,none⟩=some (.pointer (some ⟨D k,0,none⟩)):=by
    have hb:=hc5.blk hWa.blk (fun e=>hWa.sq k hk|>.no hWa.blk.tg (by decide) (by decide) e)
    have h9:=(hWa.cp hk).2.2.2
    rw [hWa.blk.cell] at h9
    rw [hb.cell]
    exact h9
   have HQ5:=zaa (hAq.out w5 hD5 ma i mc HX.out (LM5.out.lbs OM5.out HX.out))
   have H5:=zaa h5
   clear hWa hc5 hD5 hAq hnF hnH h5 HAL CK OM LM kc
   go_wp2_with fail
   refine HQ5.out.mono ?_
   rintro e w6 h6
   obtain ⟨cb,rfl⟩:=h6.form
   obtain ⟨q1,_,q3⟩:=hAB.out wr w5 w6 hBw.out i HX.out _ _ H5.out h6
   simp only [Ending.returned.injEq,Value.int.injEq,true_and] at q1
   subst q1
   have HWX:=zaa q3
   have hc6:=h6.chg
   have hnH:∀x,w.heap.size≤x→¬H k x:=fun x hx e=>by have:=HW.out.ltH hk e;omega
   have CK6:Hid (CkW w6 w.heap.size (.slice la i lc) (cutC C) us):=zaa (CK5.out.chg hc6 (fun g hg=>hnH g (CK5.out.row.lt g hg).1) (fun u hu g hg=>hnH g (CK5.out.blk hu hg).2))
   have OM6:Hid (w6.ownsRow w.heap.size 84 1 (.slice ma i mc) i xs):=zaa (hc6.owns OM5.out (fun g hg=>hnH g (OM5.out.lt g hg).1))
   have LM6:Hid (LbM w6 w.heap.size B xs (cutC C)):=zaa (LM5.out.chg hc6 (fun x _ hn hf=>hn (by rw [←HB.out];exact ⟨k,hk,.inr hf⟩)))
   have hlt5:Hid (∀u∈us,∀g,u.ownBlock=some g→g<w5.heap.size):=zaa (fun u hu g hg=>(CK5.out.blk hu hg).1.lt)
   clear h6 q3 hAB HQ5 hkc5 hc6 hnH CK5 OM5 LM5 H5
   go_wp2_with fail
   go_loopw [17] (fun s17 wx=>∃j:Nat,s17=.int .i64 (j:Int)∧j≤i∧Hid (Chg (OB us) w6 wx)∧Hid (∀(j':Nat) (b:List Int),j≤j'→(cutC C)[j']?=some b→∃g c,us[j']?=some (.slice (some ⟨g,0,none⟩) b.length c)∧K.Rw wx 5 (.slice (some ⟨g,0,none⟩) b.length c) (zae b)∧Byte b)) (fun s17 _=>i - nOf s17)
   case atStart=>exact ⟨0,rfl,by omega,zaa (Chg.refl _ _),zaa (fun j' b _ hb=>by
    obtain ⟨g,c,e1,e2,_,e4⟩:=CK6.out.each j' b hb
    exact ⟨g,c,e1,e2,e4⟩)⟩
   case round=>
    rename World=>wy
    obtain ⟨j,rfl,hj,hCj,hRj⟩:=hrel
    have hub:Hid (∀g,OB us g→Tg w6 g 5∧w.heap.size≤g):=zaa (fun g ⟨u,hu,hg⟩=>CK6.out.blk hu hg)
    by_cases hjl:j<i
    · have hjlz:(j:Int)<(i:Int):=by omega
      have hj0:¬(j:Int)<0:=by omega
      obtain ⟨b,hb⟩:∃b,(cutC C)[j]?=some b:=⟨(cutC C)[j]'(by rw [HX.out];exact hjl),List.getElem?_eq_getElem _⟩
      obtain ⟨g,cc,hu,hrw,hby⟩:=hRj.out j b (Nat.le_refl _) hb
      have hrl:wy.ownsRow w.heap.size 84 1 (.slice la i lc) i us:=by
       have h9:=hCj.out.owns CK6.out.row (fun g hg e=>by have h1:=(zab CK6.out.row g hg).one (hub.out g e).1;cases h1)
       rw [HX.out] at h9
       exact h9
      have hrm:wy.ownsRow w.heap.size 84 1 (.slice ma i mc) i xs:=hCj.out.owns OM6.out (fun g hg e=>by have h1:=(zab OM6.out g hg).one (hub.out g e).1;cases h1)
      obtain ⟨a9,c9,e9,sl9,_⟩:=(LM6.out.chg hCj.out (fun x hx _ e=>by have:=(hub.out x e).2;omega)) j b hb
      obtain ⟨gl,rfl,_⟩:=zbc hrl (by omega)
      obtain ⟨gm,rfl,_⟩:=zbc hrm (by omega)
      have cl:=zai hrl j _ hu
      have cm:=zai hrm j _ e9
      have htg:Tg wy g 5:=zf3 hrw rfl
      have hgl:¬gl=g:=fun e=>by
       have h1:=zab hrl gl rfl
       rw [e] at h1
       have:=h1.one htg
       cases this
      have hgll:gl<wy.heap.size:=za0 hrl gl rfl
      obtain ⟨bl,hbl⟩:∃bl,b.length=bl:=⟨_,rfl⟩
      have hbl2:bl≤200:=by
       obtain ⟨b',_,hb'⟩:=List.mem_map.1 (List.mem_of_getElem? hb)
       have h9:=List.length_take_le 200 b'
       rw [show b'.take 200=b from hb',hbl] at h9
       exact h9
      rw [hbl] at cl cm hu
      have HRW:=zaa hrw
      have HBL:=zaa hbl
      have HBY:=zaa hby
      have HU:=zaa hu
      have HSL:=zaa sl9
      have hc1:∀q,(convert 84 9 (.slice (some ⟨g,0,none⟩) bl cc)).run Tryz.prog (wy.drewN q)=.ok (.string (strOfNums b)) (wy.drewN q):=fun q=>zav 84 5 9 Tryz.underlying84 Tryz.underlying5 Tryz.underlying9 ((rw_sl (by rw [←HBL.out];exact HRW.out) HBL.out HBY.out).later (zah (Below.refl _ _) q))
      have hc2:∀q,(convert 84 9 (.slice a9 bl c9)).run Tryz.prog (wy.drewN q)=.ok (.string (strOfNums b)) (wy.drewN q):=fun q=>zav 84 5 9 Tryz.underlying84 Tryz.underlying5 Tryz.underlying9 (by have h9:=HSL.out;rw [HBL.out] at h9;exact h9.later (zah (Below.refl _ _) q))
      generalize strOfNums b=sb at*
      clear hb hrw hby hrl hrm e9 sl9 hbl hu htg
      go_wp2_with fail
      go_quiet (fail)
      go_wp2
      go_loopw [18] (fun s18 wx=>∃z:Nat,s18=.int .i64 (z:Int)∧z≤bl∧Hid (Chg (fun x=>x=g) wy wx)∧Hid (K.Rw wx 5 (.slice (some ⟨g,0,none⟩) bl cc) (zae (List.replicate z 9++b.drop z)))) (fun s18 _=>bl - nOf s18)
      case atStart=>exact ⟨0,rfl,by omega,zaa (Chg.drewN (fun x=>x=g) wy nq),zaa (by
       have h9:=HRW.out
       rw [HBL.out] at h9
       simpa using h9.later (zah (Below.refl _ _) nq))⟩
      case round=>
       rename World=>wz
       obtain ⟨z,rfl,hz,hCz,hRz⟩:=hrel
       have hclz:wz.cell? ⟨gl,j,none⟩=some (.slice (some ⟨g,0,none⟩) bl cc):=by
        rw [World.cell?_of_block (w:=wy) (a:=⟨gl,j,none⟩) (hCz.out.block gl hgll (fun e=>hgl e))]
        exact cl
       clear hc1 hc2
       by_cases hzl:z<bl
       · have hzlz:(z:Int)<(bl:Int):=by omega
         have hz0:¬(z:Int)<0:=by omega
         have hbl9:=HBL.out
         obtain ⟨y,hy⟩:∃y,(zae (List.replicate z 9++b.drop z))[z]?=some y:=⟨(zae (List.replicate z 9++b.drop z))[z]'(by rw [zaf];simp;omega),List.getElem?_eq_getElem _⟩
         have ky:=hRz.out.cell hy
         have fy:wz.frozen? ⟨g,z,none⟩=false:=hRz.out.frozen (by have:=hRz.out.lens;rw [zaf] at this;simp at this;omega)
         have HNX:Hid (K.Rw (wz.setCell ⟨g,z,none⟩ (.int .u8 9)) 5 (.slice (some ⟨g,0,none⟩) bl cc) (zae (List.replicate (z+1) 9++b.drop (z+1)))):=zaa (by
          rw [←zdq (by omega),zfz]
          exact hRz.out.set z _)
         clear hy
         go_wp2_with fail
         refine ⟨⟨z+1,by first|rfl|simp,by omega,zaa (hCz.out.trans (Chg.set ⟨g,z,none⟩ _ wz) (fun _ _ e=>e)),HNX⟩,?_⟩
         simp [nOf]
         omega
       have hzlz:¬(z:Int)<(bl:Int):=by omega
       have hog:OB us g:=⟨_,List.mem_of_getElem? HU.out,rfl⟩
       have HNC:Hid (Chg (OB us) w6 wz):=zaa (hCj.out.trans hCz.out (fun x _ e=>by rw [show x=g from e];exact hog))
       have HNR:Hid (∀(j':Nat) (b:List Int),j+1≤j'→(cutC C)[j']?=some b→∃g c,us[j']?=some (.slice (some ⟨g,0,none⟩) b.length c)∧K.Rw wz 5 (.slice (some ⟨g,0,none⟩) b.length c) (zae b)∧Byte b):=zaa (fun j' b' hj' hb'=>by
        obtain ⟨g',c',e1,e2,e3⟩:=hRj.out j' b' (by omega) hb'
        exact ⟨g',c',e1,zfr e2 hCz.out (fun x hx e=>CK6.out.apt j' j _ _ (by omega) e1 HU.out x hx (by rw [show x=g from e];rfl)),e3⟩)
       clear hog
       go_wp2_with fail
       refine ⟨⟨j+1,by first|rfl|simp,by omega,HNC,HNR⟩,?_⟩
       simp [nOf]
       omega
    have hjlz:¬(j:Int)<(i:Int):=by omega
    go_wp2_with fail
    go_ret
    refine ⟨rfl,HWX.out.wxs (G:=OB us) (fun x hx=>?_) hCj.out⟩
    obtain ⟨q1,q2⟩:=hub.out x hx
    obtain ⟨u,hu,e⟩:=hx
    exact ⟨Nat.le_trans HW.out.bel.size q2,hlt5.out u hu x e,fun j' hj' e9=>by have:=HW.out.ltH hj' e9;omega,fun e9=>by have:=(HW.out.tl.tg rkS e9).lt;omega,fun e9=>by have:=(HW.out.tc.tg rkB e9).lt;omega,q1⟩
end
def pd:Sm:=⟨1,201⟩
def mL (l:List Sm) (i:Nat):List Sm:=l++(List.replicate i pd++List.replicate (4 - i) z0)
theorem mL_len (l:List Sm) {i:Nat} (hi:i≤4):(mL l i).length=l.length+4:=by simp [mL];omega
theorem mL_set (l:List Sm) {i N:Nat} (hi:i<4) (hN:l.length=N):(mL l i).set (N+i) pd=mL l (i+1):=by
 unfold mL
 rw [List.set_append_right _ _ (by omega),List.set_append_right _ _ (by simp;omega),show 4 - i=(4 - (i+1))+1 by omega,List.replicate_succ]
 simp only [List.length_replicate]
 rw [show N+i - l.length - i=0 by omega,List.set_cons_zero,List.replicate_succ',List.append_assoc]
 rfl
theorem mL_bd {l:List Sm} (h:∀x∈l,OkS x) (i:Nat):Bd (mL l i):=by
 intro x hx
 unfold mL at hx
 rcases List.mem_append.1 hx with hx|hx
 · exact h x hx
 rcases List.mem_append.1 hx with hx|hx
 · rw [(List.mem_replicate.1 hx).2];exact ⟨by unfold I64 pd;simp only;omega,by show 201<_;omega⟩
 rw [(List.mem_replicate.1 hx).2];exact ⟨by unfold I64 z0;simp only;omega,by show 0<_;omega⟩
theorem blk_smp {w:World} {g:Nat} {l:List Sm} (h:Blk w g 53 (cS l)) {i:Nat} (hi:i<l.length):∃x,l[i]?=some x∧w.cell? ⟨g,i*2,none⟩=some (.int .i64 x.t)∧w.cell? ⟨g,i*2+1,none⟩=some (.int .u64 (x.v:Int)):=by
 have hx:l[i]?=some (l[i]'hi):=List.getElem?_eq_getElem hi
 have h9:=zfc _ _ _ hx
 exact ⟨_,hx,(h.cell _).trans h9.1,(h.cell _).trans h9.2⟩
theorem mL_at {l:List Sm} {i N:Nat} (hN:l.length=N) (hi:i<N+4):(List.replicate i z0++(mL l 4).drop i)[i]?=(mL l 4)[i]?:=by
 rw [List.getElem?_append_right (by simp),List.length_replicate,Nat.sub_self,List.getElem?_drop,Nat.add_zero]
theorem mL_lo {l:List Sm} {i N:Nat} (hN:l.length=N) (hi:i<N):(mL l 4)[i]?=l[i]?:=by
 unfold mL
 rw [List.getElem?_append_left (by omega)]
theorem mL_hi {l:List Sm} {i N:Nat} (hN:l.length=N) (hi:N≤i) (hi2:i<N+4):(mL l 4)[i]?=some pd:=by
 unfold mL
 rw [List.getElem?_append_right (by omega),List.getElem?_append_left (by simp;omega),List.getElem?_replicate,if_pos (by omega)]
section
variable {w0:World} {v:Nat} {P S R D n:Nat→Nat} {st su:Nat→K.Sx} {Z:Nat→ByteArray→List En} {E:Nat→List De} {F H:Nat→Nat→Prop} {vl vc:Value} {Ll Lc:List Value} {T:Nat}
theorem appendsP (w:World) (hW:WK w0 w v P S R D n st su Z E F H vl vc Ll Lc) (hE:∀k,k<2→EqK (n k) (st k) (su k) (Z k) (E k)) (hTT:∀k,k<2→(E k).length≤T) (hT:T≤1000) (k:Nat) (hk:k<2) (o:ByteArray) (id:Int)
 (ad:Option Addr) (N c:Nat) (l:List Sm) (hL:Ss w ad l) (hN:l.length=N) (hN6:N≤600) (hno:ad=none→l=[]∧c=0) (hap:∀z,ad=some z→l≠[]→∀j,j<2→¬F j z.block∧¬H j z.block):
 Calls Tryz.prog 22 #[pV v,.int .i64 (k:Int),.string o,.int .i64 id,.slice ad N c] w fun e w'=>e=.returned (.bool true)∧WX w0 v P S R D n (T+1) w':=by
 have hz:=(hW.sq k hk).sz
 have hy:=(hW.dq k hk).sz
 have heq:=(hE k hk).eqv.smp (hz.key o) (hy.key o) id
 have hsm:=hz.smps o id
 have hnn:=hW.nn k hk
 have hEk:=hTT k hk
 have hlo:=hW.lo2
 have hbl:=hW.bel.size
 have HW:=zaa hW
 have HL:=zaa hL
 have HN:=zaa hN
 have HNO:=zaa hno
 have HAP:=zaa hap
 have hNd:=zaa (fun (wx:World) (hb:Below w.heap.size w wx) (g:Nat) (hS:Ss wx (some ⟨g,0,none⟩) l)=>needsP o id (F k) (S k) (P k) (n k) (st k) (Z k) (some ⟨g,0,none⟩) N (N+4) l wx ((hW.later hb).sq k hk) (hW.later hb).gv (by have:=hb.size;omega) hS hN (by omega))
 have hNq:=zaa (fun (wx:World) (hb:Below w.heap.size w wx)=>needsQ o id (H k) (D k) (n k) (su k) (E k) wx ((hW.later hb).dq k hk).dq (by omega) (by rw [←heq];omega) ad N c l (hL.later hb) hN (by omega) hno)
 have hAp:=zaa (fun (wx:World) (hb:Below w.heap.size w wx) (g:Nat) (hS:Ss wx (some ⟨g,0,none⟩) l)=>zf2 o id (F k) (S k) (P k) (n k) (st k) (Z k) (some ⟨g,0,none⟩) N (N+4) l wx ((hW.later hb).sq k hk) (hW.later hb).gv (by have:=hb.size;omega) (fun i hi=>by have:=hW.lo.2.1 k i hk hi;omega) hS hN (by omega))
 have hAq:=zaa (fun (wx:World) (hd:DQr (H k) wx (D k) (R k) (n k) (su k) (E k)) (hS:Ss wx ad l)=>appendQ o id (H k) (D k) (R k) (n k) (su k) (E k) wx hd (by omega) (by rw [←heq];omega) ad N c l hS hN (by omega) hno (fun z hz9 hn9=>(hap z hz9 hn9 k hk).2))
 have hNB:=zaa (fun (e e':Ending) (h1:NdP id (enL (Z k o) id).1 (enL (Z k o) id).2 l e) (h2:NdR id (enL (zE (E k) o) id).2 l e')=>need_both hz hy (hE k hk).eqv o id l h1 h2)
 have hAB:=zaa (fun (wa wb wc:World) (hb:Below w.heap.size w wa) (e e':Ending) (h1:ApP (F k) wa (S k) (P k) (n k) (st k) (Z k) o id l e wb) (h2:ApV (H k) wb (D k) (R k) (n k) (su k) (E k) o id (enL (zE (E k) o) id).2 l (gO (gF (enL (zE (E k) o) id).2)).length (gO (gF ((enL (zE (E k) o) id).2++l))).length (n k - (K.tkL (su k) (n k)).length) e' wc)=>ap_both (hW.later hb) hE hTT hk h1 h2)
 have hcp:=zaa (fun (wx:World) (hb:Below w.heap.size w wx)=>(hW.later hb).cp hk)
 have hk3:(k:Int)<2:=by omega
 have hk0:¬(k:Int)<0:=by omega
 obtain ⟨sz4,hsz4⟩:∃z,w.heap.size=z:=⟨_,rfl⟩
 have HSZ:=zaa hsz4
 clear hW hE hTT hz hy heq hsm hEk hL hN hno hap hnn
 unfold pV
 go_enter Tryz.func22,Tryz.ntmps22
 go_wp2_with (first
  |(at_make;refine K.wpList_make_any _ rfl (.tmp 22) (.tmp 22) 46 rfl 53 _ 2 16 Tryz.underlying46 info53z (N+4) (by rfl) (by rfl) (by omega) (by omega) ?_;intro w1 hB hz bl;rw [made53,HSZ.out] at hB;have HB:=zaa hB;have HZ:=zaa hz;have BL:=zaa bl;clear hB hz bl)
  |(refine zet rfl (.tmp 24) (.tmp 25) rfl sz4 N 4 c ad rfl rfl l HN.out HB.out (HL.out.later BL.out) HNO.out ?_;intro w2 hB2 hc2;have HB2:=zaa hB2;have BL2:=zaa (BL.out.trans (hc2.below BL.out.size (fun i hi=>by rw [show i=sz4 from hi,HSZ.out];exact Nat.le_refl _)));clear hB2 hc2))
 have hM0:Hid (Blk w2 sz4 53 (cS (mL l 0))):=zaa HB2.out
 clear HB HZ BL HB2
 go_loopw [12] (fun s12 wx=>∃i:Nat,s12=.int .i64 ((N+i:Nat):Int)∧i≤4∧Hid (Blk wx sz4 53 (cS (mL l i)))∧Hid (Below w.heap.size w wx)) (fun s12 _=>N+4 - nOf s12)
 case atStart=>exact ⟨0,rfl,by omega,hM0,BL2⟩
 case round=>
  rename World=>wr
  obtain ⟨i,rfl,hi,hM,hBw⟩:=hrel
  clear hM0 BL2
  by_cases hlt:i<4
  · have hltz:((N+i:Nat):Int)<((N+4:Nat):Int):=by omega
    have hi0:¬((N+i:Nat):Int)<0:=by omega
    obtain ⟨x,_,k0,k1⟩:=blk_smp hM.out (i:=N+i) (by rw [mL_len l hi,HN.out];omega)
    have HS:Hid (∀wx,Below wr.heap.size wr wx→wx.cell? ⟨sz4,(N+i)*2,none⟩=some (.int .i64 x.t)∧wx.cell? ⟨sz4,(N+i)*2+1,none⟩=some (.int .u64 (x.v:Int))∧wx.frozen? ⟨sz4,(N+i)*2,none⟩=false∧wx.frozen? ⟨sz4,(N+i)*2+1,none⟩=false):=zaa (fun wx hb=>by
     have h9:=hM.out.later hb
     exact ⟨by rw [hb.cell (p:=⟨sz4,(N+i)*2,none⟩) hM.out.lt];exact k0,by rw [hb.cell (p:=⟨sz4,(N+i)*2+1,none⟩) hM.out.lt];exact k1,h9.frozen _,h9.frozen _⟩)
    clear k0 k1
    go_wp2_with fail
    refine (zbt 1 201 _).mono ?_
    rintro e w3 ⟨rfl,b3⟩
    obtain ⟨k0,k1,f0,f1⟩:=HS.out _ b3
    have HNX:Hid (Blk ((w3.setCell ⟨sz4,(N+i)*2,none⟩ (.int .i64 1)).setCell ⟨sz4,(N+i)*2+1,none⟩ (.int .u64 201)) sz4 53 (cS (mL l (i+1)))):=zaa (by
     rw [←mL_set l hlt HN.out]
     exact blk_setS (x:=pd) (hM.out.later b3))
    have B3:Hid (Below w.heap.size w ((w3.setCell ⟨sz4,(N+i)*2,none⟩ (.int .i64 1)).setCell ⟨sz4,(N+i)*2+1,none⟩ (.int .u64 201))):=zaa (by
     have q:=hBw.out.trans (b3.mono hBw.out.size)
     refine q.trans ((zej w3 sz4 (N+i) _ _).below q.size (fun j hj=>?_))
     rw [show j=sz4 from hj,HSZ.out]
     exact Nat.le_refl _)
    clear b3
    go_wp2_with fail
    refine ⟨⟨i+1,by first|rfl|simp|(congr 1),by omega,HNX,B3⟩,?_⟩
    simp [nOf]
    omega
  have hltz:¬((N+i:Nat):Int)<((N+4:Nat):Int):=by omega
  obtain rfl:i=4:=by omega
  have hbd:Hid (Bd (mL l 4)):=zaa (mL_bd HL.out.sz 4)
  have HSS:Hid (∀wx,Below wr.heap.size wr wx→Ss wx (some ⟨sz4,0,none⟩) l):=zaa (fun wx hb=>(ss_blk (hM.out.later hb) hbd.out).pre)
  have hkc:=(hcp.out wr hBw.out).2.1
  have hN4:(N:Int)≤((N+4:Nat):Int):=by omega
  have hN0:¬(N:Int)<0:=by omega
  have hM4:=hM
  have hBr:=hBw
  clear hM hBw hltz
  go_upto_region 7 with fail
  go_cut [13,14] from 39 to 54 (fun s13 s14 wx=>∃va c9:Int,s13=.int .i64 va∧s14=.int .i64 c9∧Hid (NdP id (enL (Z k o) id).1 (enL (Z k o) id).2 l (.returned (.tuple #[.int .i64 va,.int .i64 c9])))∧Hid (Below wr.heap.size wr wx))
  case first=>
   go_region_with (first
    |(refine (hNd.out _ (hBr.out.trans ((Below.refl wr.heap.size wr).drew.mono hBr.out.size)) sz4 (HSS.out _ (Below.refl _ _).drew)).mono ?_
      rintro e w3 ⟨b3,h3⟩
      obtain ⟨va,vc9,rfl⟩:=h3.form
      have B3:Hid (Below wr.heap.size wr w3):=zaa (Below.trans (Below.refl _ _).drew b3)
      have H3:=zaa h3
      clear b3 h3))
   all_goals
    go_wp2_with fail
    go_meet
    exact ⟨va,vc9,rfl,rfl,H3,B3⟩
  case rest=>
   rename World=>w3
   obtain ⟨va,c9,rfl,rfl,H3,B3⟩:=hcut
   have B3w:Hid (Below w.heap.size w w3):=zaa (hBr.out.trans (B3.out.mono hBr.out.size))
   have hkc3:=(hcp.out w3 B3w.out).2.2.2
   go_wp2_with fail
   refine (hNq.out w3 B3w.out).mono ?_
   rintro e w4 ⟨h4,b4⟩
   obtain ⟨vb,c10,rfl⟩:=h4.form
   have hab:=hNB.out _ _ H3.out h4
   obtain ⟨q1,_⟩:=hab
   simp only [Ending.returned.injEq,Value.tuple.injEq,Array.mk.injEq,List.cons.injEq,Value.int.injEq,true_and,and_true] at q1
   obtain ⟨rfl,rfl⟩:=q1
   have B4:Hid (Below wr.heap.size wr w4):=zaa (B3.out.trans (b4.mono B3.out.size))
   have B4w:Hid (Below w.heap.size w w4):=zaa (B3w.out.trans (b4.mono B3w.out.size))
   have hkc4:=(hcp.out w4 B4w.out).2.1
   clear b4 h4 H3 hkc3 hNd hNq hNB
   go_upto_region 9 with fail
   go_cut [17] from 68 to 80 (fun s17 wx=>∃(wa:World) (ca:Int),s17=.int .i64 ca∧Hid (Below w.heap.size w wa)∧Hid (Below wr.heap.size wr wa)∧Hid (ApP (F k) wa (S k) (P k) (n k) (st k) (Z k) o id l (.returned (.int .i64 ca)) wx))
   case first=>
    go_region_with (first
     |(refine (hAp.out _ (B4w.out.trans ((Below.refl w4.heap.size w4).drew.mono B4w.out.size)) sz4 (HSS.out _ (B4.out.trans ((Below.refl w4.heap.size w4).drew.mono B4.out.size)))).mono ?_
       rintro e w5 h5
       obtain ⟨ca,rfl⟩:=h5.form
       have H5:=zaa h5
       clear h5))
    all_goals
     go_wp2_with fail
     go_meet
     exact ⟨w4.drew,ca,rfl,zaa (B4w.out.trans ((Below.refl w4.heap.size w4).drew.mono B4w.out.size)),zaa (B4.out.trans ((Below.refl w4.heap.size w4).drew.mono B4.out.size)),H5⟩
   case rest=>
    rename World=>w5
    obtain ⟨wa,ca,rfl,BAw,BAr,H5⟩:=hcut
    have hWa:=HW.out.later BAw.out
    have hc5:=H5.out.chg
    have hD5:=(hWa.dq k hk).chg hc5 (fun i hi hf=>hWa.fh k k hk hk i hf hi)
    have hL5:Hid (Ss w5 ad l):=zaa ((HL.out.later BAw.out).chgN hc5 (fun z hz9 hn9=>(HAP.out z hz9 hn9 k hk).1))
    have hsF:Hid (∀j,j<2→¬F j sz4∧¬H j sz4):=zaa (fun j hj=>⟨fun e=>by have:=HW.out.ltF hj e;have:=HSZ.out;omega,fun e=>by have:=HW.out.ltH hj e;have:=HSZ.out;omega⟩)
    have hM5:Hid (Blk w5 sz4 53 (cS (mL l 4))):=zaa (hc5.blk (hM4.out.later BAr.out) ((hsF.out k hk).1))
    have hkc5:w5.cell? ⟨v,6+k,none⟩=some (.pointer (some ⟨D k,0,none⟩)):=by
     have hb:=hc5.blk hWa.blk (fun e=>hWa.sq k hk|>.no hWa.blk.tg (by decide) (by decide) e)
     have h9:=(hWa.cp hk).2.2.2
     rw [hWa.blk.cell] at h9
     rw [hb.cell]
     exact h9
    have HQ5:=zaa (hAq.out w5 hD5 hL5.out)
    clear hWa hc5 hD5 hAp hAq hkc4
    go_wp2_with fail
    refine HQ5.out.mono ?_
    rintro e w6 h6
    obtain ⟨cb,rfl⟩:=h6.form
    obtain ⟨q1,_,q3⟩:=hAB.out wa w5 w6 BAw.out _ _ H5.out h6
    simp only [Ending.returned.injEq,Value.int.injEq,true_and] at q1
    subst q1
    have HWX:=zaa q3
    have hL6:Hid (Ss w6 ad l):=zaa (hL5.out.chgN h6.chg (fun z hz9 hn9=>(HAP.out z hz9 hn9 k hk).2))
    have hM6:Hid (Blk w6 sz4 53 (cS (mL l 4))):=zaa (h6.chg.blk hM5.out ((hsF.out k hk).2))
    have hlt5:=zaa hM5.out.lt
    clear h6 q3 hAB HQ5 hM5 hL5 hkc5
    have hs64:Hid (w.heap.size≤sz4):=zaa (by rw [HSZ.out];exact Nat.le_refl _)
    have hadn:Hid (∀z,ad=some z→l≠[]→¬z.block=sz4):=zaa (fun z hz9 hne e=>by
     obtain ⟨b,off,e1,e2,_⟩:=HL.out.at' hne
     rw [hz9] at e1
     cases e1
     have:=HSZ.out
     simp only at e
     omega)
    go_wp2_with fail
    go_loopw [19] (fun s19 wx=>∃i:Nat,s19=.int .i64 (i:Int)∧i≤N+4∧Hid (Blk wx sz4 53 (cS (List.replicate i z0++(mL l 4).drop i)))∧Hid (Chg (fun b=>b=sz4) w6 wx)) (fun s19 _=>N+4 - nOf s19)
    case atStart=>exact ⟨0,rfl,by omega,zaa (by simpa using hM6.out),zaa (Chg.refl _ _)⟩
    case round=>
     rename World=>wy
     obtain ⟨i,rfl,hi,hMi,hCi⟩:=hrel
     by_cases hlt:i<N+4
     · have hltz:(i:Int)<((N+4:Nat):Int):=by omega
       have hi0:¬(i:Int)<0:=by omega
       have hlm:=mL_len l (i:=4) (by omega)
       rw [HN.out] at hlm
       obtain ⟨x,hx,k0,k1⟩:=blk_smp hMi.out (i:=i) (by rw [List.length_append,List.length_replicate,List.length_drop,hlm];omega)
       rw [mL_at HN.out hlt] at hx
       have HS:Hid (∀wx,Below wy.heap.size wy wx→wx.cell? ⟨sz4,i*2,none⟩=some (.int .i64 x.t)∧wx.cell? ⟨sz4,i*2+1,none⟩=some (.int .u64 (x.v:Int))∧wx.frozen? ⟨sz4,i*2,none⟩=false∧wx.frozen? ⟨sz4,i*2+1,none⟩=false):=zaa (fun wx hb=>by
        have h9:=hMi.out.later hb
        exact ⟨by rw [hb.cell (p:=⟨sz4,i*2,none⟩) hMi.out.lt];exact k0,by rw [hb.cell (p:=⟨sz4,i*2+1,none⟩) hMi.out.lt];exact k1,h9.frozen _,h9.frozen _⟩)
       have HNX:Hid (∀wx,Below wy.heap.size wy wx→Blk ((wx.setCell ⟨sz4,i*2,none⟩ (.int .i64 0)).setCell ⟨sz4,i*2+1,none⟩ (.int .u64 0)) sz4 53 (cS (List.replicate (i+1) z0++(mL l 4).drop (i+1)))∧Chg (fun b=>b=sz4) w6 ((wx.setCell ⟨sz4,i*2,none⟩ (.int .i64 0)).setCell ⟨sz4,i*2+1,none⟩ (.int .u64 0))):=zaa (fun wx hb=>by
        refine ⟨?_,(hCi.out.trans (Chg.of_below (F:=fun b=>b=sz4) hb) (fun _ _ e=>e)).trans (zej wx sz4 i _ _) (fun _ _ e=>e)⟩
        rw [←zdq (by rw [hlm];exact hlt)]
        exact blk_setS (x:=z0) (hMi.out.later hb))
       by_cases hlN:i<N
       · have hlNz:(i:Int)<(N:Int):=by omega
         rw [mL_lo HN.out hlN] at hx
         have hne:l≠[]:=fun e=>by have:=HN.out;rw [e] at this;simp at this;omega
         have hLy:Ss wy ad l:=hL6.out.chg hCi.out (fun z hz9=>hadn.out z hz9 hne)
         obtain ⟨b2,off2,y,rfl,hb2,hy,_,k2,k3,_⟩:=hLy.get (i:=i) (by rw [HN.out];exact hlN)
         have hxy:x=y:=by rw [hx] at hy;exact Option.some.inj hy
         subst hxy
         clear hLy hx hy
         go_upto_region 14 with fail
         refine ap_r14a sz4 b2 off2 i N c x.t (x.v:Int) wy _ _ (by rfl) (by rfl) (by rfl) (by rfl) (by omega) hi0 (by kernel_rfl) hlNz (by omega) (fun wx hb=>(HS.out wx hb).1) (fun wx hb=>(HS.out wx hb).2.1) (fun wx hb=>by rw [Below.cell hb (p:=⟨b2,off2+i*2,none⟩) hb2];exact k2) (fun wx hb=>by rw [Below.cell hb (p:=⟨b2,off2+i*2+1,none⟩) hb2];exact k3) ?_
         intro v97 v98 v99 v100 v101 v102 v103 v104 v105 v106 v107 v108 v109 v110 v111 v112 v113 v114 v115 v116 v117 v118 v119 v120 v121 v122 v123 v124 w7 hL7
         have HL7:=zaa hL7
         clear hL7
         simp only [Act.put,List.setIfInBounds_toArray,List.set_cons_succ,List.set_cons_zero]
         go_wp2_with fail
         refine (zbt 0 0 _).mono ?_
         rintro e w8 ⟨rfl,b8⟩
         have B8:Below wy.heap.size wy w8:=Below.trans HL7.out (b8.mono HL7.out.size)
         obtain ⟨k0,k1,f0,f1⟩:=HS.out _ B8
         obtain ⟨hn1,hn2⟩:=HNX.out _ B8
         have HN1:=zaa hn1
         have HN2:=zaa hn2
         clear B8 b8 hn1 hn2
         go_wp2_with fail
         refine ⟨⟨i+1,by first|rfl|simp,by omega,HN1,HN2⟩,?_⟩
         simp [nOf]
         omega
       have hxp:x=pd:=by rw [mL_hi HN.out (by omega) hlt] at hx;exact (Option.some.inj hx).symm
       subst hxp
       clear hx
       have hge:(N:Int)≤(i:Int):=by omega
       go_upto_region 14 with fail
       refine ap_r14b sz4 i N c ad wy _ _ (by rfl) (by rfl) (by rfl) (by rfl) (by omega) hi0 (by kernel_rfl) (by omega) hge (fun wx hb=>(HS.out wx hb).1) (fun wx hb=>(HS.out wx hb).2.1) ?_
       intro v97 v98 v99 v100 v101 v102 v103 v104 v105 v106 v107 v108 v109 v110 v111 v112 v113 v114 v115 v116 v117 v118 v119 v120 v121 v122 v123 v124 w7 hL7
       have HL7:=zaa hL7
       clear hL7
       simp only [Act.put,List.setIfInBounds_toArray,List.set_cons_succ,List.set_cons_zero]
       go_wp2_with fail
       refine (zbt 0 0 _).mono ?_
       rintro e w8 ⟨rfl,b8⟩
       have B8:Below wy.heap.size wy w8:=Below.trans HL7.out (b8.mono HL7.out.size)
       obtain ⟨k0,k1,f0,f1⟩:=HS.out _ B8
       obtain ⟨hn1,hn2⟩:=HNX.out _ B8
       have HN1:=zaa hn1
       have HN2:=zaa hn2
       clear B8 b8 hn1 hn2
       go_wp2_with fail
       refine ⟨⟨i+1,by first|rfl|simp,by omega,HN1,HN2⟩,?_⟩
       simp [nOf]
       omega
     have hltz:¬(i:Int)<((N+4:Nat):Int):=by omega
     go_wp2_with fail
     go_ret
     refine ⟨rfl,?_⟩
     exact HWX.out.wx hlt5.out (fun j hj=>(hsF.out j hj).2) (fun e=>by have:=(HW.out.tl.tg rkS e).lt;have:=HSZ.out;omega) (fun e=>by have:=(HW.out.tc.tg rkB e).lt;have:=HSZ.out;omega) hM6.out.tg (by have:=HW.out.bel.size;have:=HSZ.out;omega) hCi.out
end
section
variable {w0 w:World} {v:Nat} {P S R D n:Nat→Nat} {T:Nat}
theorem stepP1 (w:World) (h:WX w0 v P S R D n T w) (hT:T≤1000) (s:Stq) (hs:s.kd=1) (hon:-9223372036854775808≤s.on∧s.on≤9223372036854775807) (L:List Sm) (hL:Ss w0 s.la L) (hN:L.length=s.ln) (hlc:s.ln≤s.lc) (hno:s.la=none→L=[]∧s.lc=0):
 Calls Tryz.prog 10 #[pV v,.agg s.cells.toArray] w fun e w'=>e=.returned (.bool true)∧WX w0 v P S R D n (T+1) w':=by
 obtain ⟨st,su,Z,E,F,H,vl,vc,Ll,Lc,hW,hE,hTT⟩:=h
 obtain ⟨kd,on,id,o,la,ln,lc,f,t,ca,cn,cc⟩:=s
 dsimp only at*
 subst hs
 have hz:∀z,la=some z→L≠[]→z.block<w0.heap.size:=fun z hz hn=>by
  obtain ⟨b,off,e,hb,_⟩:=hL.at' hn
  rw [hz] at e
  cases e
  exact hb
 have hAP:=zaa (fun (wx:World) (hb:Below w.heap.size w wx) (k:Nat) (hk:k<2) (q:Nat) (hq:q≤600) (hq2:q≤ln)=>appendsP wx (hW.later hb) hE hTT hT k hk o id la q lc (L.take q) (Ss.pre (m:=L.drop q) (by rw [List.take_append_drop];exact hL.bel (hW.later hb).bel (fun x hx hn=>hz x hx hn))) (by rw [List.length_take];omega) hq (fun e=>⟨by rw [(hno e).1];simp,(hno e).2⟩) (fun z hz9 hn j hj=>by
  have h9:=hz z hz9 (fun e=>hn (by rw [e];simp))
  exact ⟨fun e=>by have:=hW.lo.2.1 j _ hj e;omega,fun e=>by have:=hW.lo.2.2 j _ hj e;omega⟩))
 clear hW hE hTT hL hN hno hz
 unfold pV at*
 go_enter Tryz.func10,Tryz.ntmps10
 go_wp2_with (first
  |(refine zac rfl 48 (.tmp 1) rfl [.int .i64 1,.int .i64 on,.int .i64 id,.string o,.slice la ln lc,.int .i64 f,.int .i64 t,.slice ca cn cc] rfl ?_
    intro w1 B1 bl1 hz1
    have BL1:=zaa bl1
    have HB1:=zaa B1
    have d0:w1.cell? ⟨w.heap.size,0,none⟩=some (.int .i64 1):=B1.cell 0
    have d1:w1.cell? ⟨w.heap.size,1,none⟩=some (.int .i64 on):=B1.cell 1
    have d2:w1.cell? ⟨w.heap.size,2,none⟩=some (.int .i64 id):=B1.cell 2
    have d3:w1.cell? ⟨w.heap.size,3,none⟩=some (.string o):=B1.cell 3
    have d4:w1.cell? ⟨w.heap.size,4,none⟩=some (.slice la ln lc):=B1.cell 4
    clear B1 bl1))
 refine (zfi on 2 (by omega) (by omega) hon w1).mono ?_
 rintro e w9 ⟨⟨k,hk,rfl⟩,hw9⟩
 rw [hw9]
 clear hw9
 have hk2:k<2:=by omega
 obtain ⟨q,hq⟩:∃q,min ln 600=q:=⟨_,rfl⟩
 have hqz:((ln:Int)≤600∧q=ln)∨(¬(ln:Int)≤600∧q=600):=by omega
 have hqc:(q:Int)≤(lc:Int):=by omega
 have hq0:¬(q:Int)<0:=by omega
 have HAP:=zaa (fun (wx:World) (hl:Lat w1 wx)=>hAP.out wx (BL1.out.trans (Below.mono hl BL1.out.size)) k hk2 q (by omega) (by omega))
 have hB1:=HB1.out
 clear hAP hq
 go_upto_region 4 with fail
 rcases hqz with ⟨hm1,rfl⟩|⟨hm1,rfl⟩
 · refine st_r4a v w.heap.size k q lc la o id (fun x wx=>x=.bool true∧WX w0 v P S R D n (T+1) wx) w1 _ _ (by rfl) (by rfl) (by rfl) (by rfl) (by omega) hqc (fun wx hl=>(hB1.later hl).cell 2) (fun wx hl=>(hB1.later hl).cell 3) (fun wx hl=>(hB1.later hl).cell 4) (fun wx hl=>(HAP.out wx hl).mono (by rintro e w2 ⟨rfl,h2⟩;exact ⟨_,rfl,rfl,h2⟩)) ?_
   intros
   rename_i w2 hR
   obtain ⟨rfl,h2⟩:=hR
   have H2:=zaa h2
   simp only [Act.put,List.setIfInBounds_toArray,List.set_cons_succ,List.set_cons_zero]
   clear h2
   go_wp2_with fail
   go_ret
   exact ⟨rfl,H2.out⟩
 refine st_r4b v w.heap.size k ln lc la o id (fun x wx=>x=.bool true∧WX w0 v P S R D n (T+1) wx) w1 _ _ (by rfl) (by rfl) (by rfl) (by rfl) (by omega) hqc (fun wx hl=>(hB1.later hl).cell 2) (fun wx hl=>(hB1.later hl).cell 3) (fun wx hl=>(hB1.later hl).cell 4) (fun wx hl=>(HAP.out wx hl).mono (by rintro e w2 ⟨rfl,h2⟩;exact ⟨_,rfl,rfl,h2⟩)) ?_
 intros
 rename_i w2 hR
 obtain ⟨rfl,h2⟩:=hR
 have H2:=zaa h2
 simp only [Act.put,List.setIfInBounds_toArray,List.set_cons_succ,List.set_cons_zero]
 clear h2
 go_wp2_with fail
 go_ret
 exact ⟨rfl,H2.out⟩
end
section
variable {w0 w:World} {v:Nat} {P S R D n:Nat→Nat} {T:Nat}
theorem stepP0 (w:World) (h:WX w0 v P S R D n T w) (s:Stq) (hs:∀i:Nat,i<9→0<i→¬s.kd=(i:Int)) (hon:-9223372036854775808≤s.on∧s.on≤9223372036854775807):
 Calls Tryz.prog 10 #[pV v,.agg s.cells.toArray] w fun e w'=>e=.returned (.bool true)∧WX w0 v P S R D n T w':=by
 have HX:=zaa h
 obtain ⟨kd,on,id,o,la,ln,lc,f,t,ca,cn,cc⟩:=s
 dsimp only at*
 have h1:¬kd=1:=hs 1 (by omega) (by omega)
 have h2:¬kd=2:=hs 2 (by omega) (by omega)
 have h3:¬kd=3:=hs 3 (by omega) (by omega)
 have h4:¬kd=4:=hs 4 (by omega) (by omega)
 have h5:¬kd=5:=hs 5 (by omega) (by omega)
 have h6:¬kd=6:=hs 6 (by omega) (by omega)
 have h7:¬kd=7:=hs 7 (by omega) (by omega)
 have h8:¬kd=8:=hs 8 (by omega) (by omega)
 clear h hs
 unfold pV at*
 go_enter Tryz.func10,Tryz.ntmps10
 go_wp2_with (first
  |(refine zac rfl 48 (.tmp 1) rfl [.int .i64 kd,.int .i64 on,.int .i64 id,.string o,.slice la ln lc,.int .i64 f,.int .i64 t,.slice ca cn cc] rfl ?_
    intro w1 B1 bl1 hz1
    have BL1:=zaa bl1
    have d0:w1.cell? ⟨w.heap.size,0,none⟩=some (.int .i64 kd):=B1.cell 0
    have d1:w1.cell? ⟨w.heap.size,1,none⟩=some (.int .i64 on):=B1.cell 1
    clear B1 bl1))
 refine (zfi on 2 (by omega) (by omega) hon w1).mono ?_
 rintro e w9 ⟨⟨k,hk,rfl⟩,hw9⟩
 rw [hw9]
 clear hw9
 go_wp2_with fail
 go_ret
 exact ⟨rfl,HX.out.later BL1.out⟩
end
end Go.Proofs.YtlppibigceeimaaGreatDoor
