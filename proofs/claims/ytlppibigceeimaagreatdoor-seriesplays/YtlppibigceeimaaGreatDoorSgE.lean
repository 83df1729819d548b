import Derived.Test.YtlppibigceeimaaGreatDoorSeX
import Derived.Test.YtlppibigceeimaaGreatDoorPpF
set_option linter.unusedSimpArgs false
set_option linter.unusedVariables false
set_option maxHeartbeats 40000000
set_option maxRecDepth 100000
namespace Go.Proofs.YtlppibigceeimaaGreatDoor
open Go.RowKit
abbrev Dv:=De×Value×Value
def dC (x:Dv):List Value:=[.string x.1.1,.int .i64 x.1.2.1,x.2.1,x.2.2]
def dCs (X:List Dv):List Value:=X.flatMap dC
theorem zcr:∀(X:List Dv) (i j:Nat) (x:Dv),X[i]?=some x→j<4→(dCs X)[i*4+j]?=(dC x)[j]?
 |[],i,j,x,h,_=>by simp at h
 |y :: X,0,j,x,h,hj=>by
  simp at h
  subst h
  show (dC y++dCs X)[0*4+j]?=_
  rw [Nat.zero_mul,Nat.zero_add,List.getElem?_append_left (by show j<4;exact hj)]
 |y :: X,i+1,j,x,h,hj=>by
  show (dC y++dCs X)[(i+1)*4+j]?=_
  rw [List.getElem?_append_right (by show 4≤_;omega),show (i+1)*4+j - (dC y).length=i*4+j by show (i+1)*4+j - 4=_;omega]
  exact zcr X i j x (by simpa using h) hj
theorem dCs_set:∀(X:List Dv) (i:Nat) (x:Dv) (j:Nat) (v:Value),X[i]?=some x→j<4→∀y:Dv,dC y=(dC x).set j v→(dCs X).set (i*4+j) v=dCs (X.set i y)
 |[],i,x,j,v,h,_,_,_=>by simp at h
 |z :: X,0,x,j,v,h,hj,y,hy=>by
  simp at h
  subst h
  show (dC z++dCs X).set (0*4+j) v=dC y++dCs X
  rw [Nat.zero_mul,Nat.zero_add,List.set_append_left _ _ (by show j<4;exact hj),hy]
 |z :: X,i+1,x,j,v,h,hj,y,hy=>by
  show (dC z++dCs X).set ((i+1)*4+j) v=dC z++dCs (X.set i y)
  rw [List.set_append_right _ _ (by show 4≤_;omega),show (i+1)*4+j - (dC z).length=i*4+j by show (i+1)*4+j - 4=_;omega,dCs_set X i x j v (by simpa using h) hj y hy]
theorem zbk {w:World} {base size:Nat} {e:TypeId} {v:Value} {n:Nat} {xs:List Value} (h:w.ownsRow base e size v n xs):∃ad c,v=.slice ad n c:=by
 rcases h.2 with ⟨h1,h2⟩|⟨g,c,cur,h1,_⟩
 · subst h2;exact ⟨_,_,h1⟩
 exact ⟨_,_,h1⟩
structure DS (w:World) (d r:Nat) (v:Value) (X:List Dv):Prop where
 blk:Blk w d 78 [.pointer (some ⟨r,0,none⟩),v]
 row:w.ownsRow 0 114 4 v X.length (dCs X)
 smp:∀x∈X,w.ownsRow 0 53 2 x.2.1 x.1.2.2.1.length (cS x.1.2.2.1)
 slt:∀x∈X,w.ownsRow 0 3 1 x.2.2 x.1.2.2.2.length (cI x.1.2.2.2)
 apt:∀(i j:Nat) (x y:Dv) (g:Nat),X[i]?=some x→X[j]?=some y→x.2.2.ownBlock=some g→y.2.2.ownBlock=some g→i=j
def DF (d:Nat) (v:Value) (X:List Dv) (i:Nat):Prop:=i=d∨v.ownBlock=some i∨∃x∈X,x.2.1.ownBlock=some i∨x.2.2.ownBlock=some i
theorem DS.chg {F:Nat→Prop} {w w':World} {d r:Nat} {v:Value} {X:List Dv} (h:DS w d r v X) (hc:Chg F w w') (hF:∀i,DF d v X i→¬F i):DS w' d r v X:=
 ⟨hc.blk h.blk (hF d (.inl rfl)),hc.owns h.row (fun g hg=>hF g (.inr (.inl hg))),fun x hx=>hc.owns (h.smp x hx) (fun g hg=>hF g (.inr (.inr ⟨x,hx,.inl hg⟩))),fun x hx=>hc.owns (h.slt x hx) (fun g hg=>hF g (.inr (.inr ⟨x,hx,.inr hg⟩))),h.apt⟩
theorem DS.later {w w':World} {d r:Nat} {v:Value} {X:List Dv} (h:DS w d r v X) (hb:Below w.heap.size w w'):DS w' d r v X:=h.chg (Chg.of_below (F:=fun _=>False) hb) (fun _ _ e=>e)
theorem DF.tag {w:World} {d r:Nat} {v:Value} {X:List Dv} (h:DS w d r v X) {i:Nat} (hi:DF d v X i):i<w.heap.size∧(Tg w i 78∨Tg w i 114∨Tg w i 53∨Tg w i 3):=by
 have hl:∀{t},Tg w i t→i<w.heap.size:=fun h=>h.lt'
 rcases hi with rfl|hi|⟨x,hx,hi|hi⟩
 · exact ⟨h.blk.lt,.inl h.blk.tg⟩
 · have:=zab h.row i hi
   exact ⟨hl this,.inr (.inl this)⟩
 · have:=zab (h.smp x hx) i hi
   exact ⟨hl this,.inr (.inr (.inl this))⟩
 have:=zab (h.slt x hx) i hi
 exact ⟨hl this,.inr (.inr (.inr this))⟩
def esD (X:List Dv):List De:=X.map (·.1)
def DQ (F:Nat→Prop) (w:World) (d n:Nat) (st:K.Sx) (E:List De):Prop:=
 ∃r q B v X,DS w d r v X∧esD X=E∧K.RP w r q n st B∧SZ n st (zE E)∧∀i,F i↔(DF d v X i∨i=r∨i=q∨K.RG st B i)
theorem DQ.later {F:Nat→Prop} {w w':World} {d n:Nat} {st:K.Sx} {E:List De} (h:DQ F w d n st E) (hb:Below w.heap.size w w'):DQ F w' d n st E:=by
 obtain ⟨r,q,B,v,X,h1,h2,h3,h4,h5⟩:=h
 exact ⟨r,q,B,v,X,h1.later hb,h2,h3.later hb,h4,h5⟩
theorem DQ.sz {F:Nat→Prop} {w:World} {d n:Nat} {st:K.Sx} {E:List De} (h:DQ F w d n st E):SZ n st (zE E):=by
 obtain ⟨r,q,B,v,X,h1,h2,h3,h4,h5⟩:=h
 exact h4
theorem esD_at {X:List Dv} {i:Nat} {x:Dv} (h:X[i]?=some x):(esD X)[i]?=some x.1:=by simp [esD,h]
def PlcV (E:List De) (o:ByteArray) (k:Int) (z:Int):Prop:=(z= -1∧∀e∈E,¬(e.1=o∧e.2.1=k))∨∃(i:Nat) (e:De),z=(i:Int)∧E[i]?=some e∧e.1=o∧e.2.1=k
theorem str_eqD (s T:ByteArray):(s.toList==T.toList)=decide (s=T):=K.str_eqR s T
theorem placeR (o:ByteArray) (k:Int) (d r:Nat) (v:Value) (X:List Dv) (w:World) (h:DS w d r v X) (hX:X.length≤1000000):
 Calls Tryz.prog 72 #[.pointer (some ⟨d,0,none⟩),.string o,.int .i64 k] w fun e w'=>(∃z:Int,e=.returned (.int .i64 z)∧PlcV (esD X) o k z)∧w'=w:=by
 obtain ⟨ad,c,rfl⟩:=zbk h.row
 have c1:w.cell? ⟨d,1,none⟩=some (.slice ad X.length c):=h.blk.cell 1
 have HR:=zaa h.row
 obtain ⟨N,hN⟩:∃N,X.length=N:=⟨_,rfl⟩
 rw [hN] at c1 HR hX
 have HN:=zaa hN
 clear h hN
 go_enter Tryz.func72,Tryz.ntmps72
 go_wp2_with fail
 go_loopw [7] (fun s7 wx=>∃i:Nat,s7=.int .i64 (i:Int)∧i≤N∧Hid (∀j e,j<i→(esD X)[j]?=some e→¬(e.1=o∧e.2.1=k))∧wx=w) (fun s7 _=>N - nOf s7)
 case atStart=>exact ⟨0,rfl,by omega,zaa (fun j e hj=>by omega),rfl⟩
 case round=>
  obtain ⟨i,rfl,hi,hno,hw⟩:=hrel
  obtain rfl:=hw.symm
  clear hw
  by_cases hlt:i<N
  · have hltz:(i:Int)<(N:Int):=by omega
    obtain ⟨x,hx⟩:∃x,X[i]?=some x:=⟨X[i]'(by rw [HN.out];exact hlt),by simp⟩
    obtain ⟨g,rfl,_⟩:∃g,ad=some ⟨g,0,none⟩∧True:=by
     rcases HR.out.2 with ⟨h1,h2⟩|⟨g,cap,cur,hv,_⟩
     · injection h1 with h1 h2
       omega
     injection hv with h1
     exact ⟨g,h1,trivial⟩
    have k0:w.cell? ⟨g,i*4,none⟩=some (.string x.1.1):=zai HR.out (i*4) _ (by have:=zcr X i 0 x hx (by omega);simpa [dC] using this)
    have k1:w.cell? ⟨g,i*4+1,none⟩=some (.int .i64 x.1.2.1):=zai HR.out (i*4+1) _ (by have:=zcr X i 1 x hx (by omega);simpa [dC] using this)
    have hq:=str_eqD x.1.1 o
    have HX:=zaa hx
    have HE:=zaa (esD_at hx)
    obtain ⟨⟨o1,k9,l1,sl1⟩,v1,v2⟩:=x
    dsimp only at k0 k1 hq HE
    clear hx
    by_cases ho:o1=o
    · rw [decide_eq_true ho] at hq
      by_cases hk:k9=k
      · subst hk
        go_wp2_with fail
        go_ret
        exact ⟨⟨_,rfl,.inr ⟨i,_,rfl,HE.out,ho,rfl⟩⟩,by first|trivial|rfl⟩
      have hkz:(k9==k)=false:=by simpa using hk
      have HK:=zaa hk
      clear hk
      go_wp2_with fail
      refine ⟨⟨i+1,by first|rfl|simp,by omega,zaa (fun j e hj he=>?_),by first|trivial|rfl⟩,?_⟩
      · rcases Nat.lt_or_ge j i with h1|h1
        · exact hno.out j e h1 he
        rw [show j=i by omega,HE.out] at he
        injection he with he
        subst he
        exact fun hh=>HK.out hh.2
      simp [nOf]
      omega
    rw [decide_eq_false ho] at hq
    have HO:=zaa ho
    clear ho
    go_wp2_with fail
    refine ⟨⟨i+1,by first|rfl|simp,by omega,zaa (fun j e hj he=>?_),by first|trivial|rfl⟩,?_⟩
    · rcases Nat.lt_or_ge j i with h1|h1
      · exact hno.out j e h1 he
      rw [show j=i by omega,HE.out] at he
      injection he with he
      subst he
      exact fun hh=>HO.out hh.1
    simp [nOf]
    omega
  have hltz:¬(i:Int)<(N:Int):=by omega
  go_wp2_with fail
  go_ret
  refine ⟨⟨-1,rfl,.inl ⟨rfl,fun e he=>?_⟩⟩,by first|trivial|rfl⟩
  obtain ⟨j,hj⟩:=List.mem_iff_getElem?.1 he
  have hjl:=(List.getElem?_eq_some_iff.1 hj).1
  unfold esD at hjl
  rw [List.length_map,HN.out] at hjl
  exact hno.out j e (by omega) hj
theorem zdp {w:World} {base:Nat} {e sz:Nat} {g n cap:Nat} {xs:List Value} (hO:w.ownsRow base e sz (.slice (some ⟨g,0,none⟩) n cap) n xs) (q:Nat) (u:Value):
 (w.setCell ⟨g,q,none⟩ u).ownsRow base e sz (.slice (some ⟨g,0,none⟩) n cap) n (xs.set q u):=by
 have hl:=hO.1
 rcases hO.2 with ⟨h0,_⟩|⟨g',cap',cur,hv,hb,hh,hn,hc,hs,ht⟩
 · cases h0
 simp only [Value.slice.injEq,Option.some.injEq,Addr.mk.injEq] at hv
 obtain ⟨⟨rfl,_⟩,_,rfl⟩:=hv
 refine ⟨by rw [List.length_set];omega,.inr ⟨g,cap,cur.setIfInBounds q u,rfl,hb,?_,hn,hc,by simpa using hs,?_⟩⟩
 · simp [World.setCell,Array.getElem?_modify,hh]
 rw [Array.toList_setIfInBounds,List.take_set,ht]
theorem apt_pw {X:List Dv}:(∀(i j:Nat) (x y:Dv) (g:Nat),X[i]?=some x→X[j]?=some y→x.2.2.ownBlock=some g→y.2.2.ownBlock=some g→i=j)↔X.Pairwise (fun x y=>∀g,x.2.2.ownBlock=some g→¬y.2.2.ownBlock=some g):=by
 rw [List.pairwise_iff_getElem]
 constructor
 · intro h i j hi hj hij g h1 h2
   have:=h i j _ _ g (List.getElem?_eq_getElem hi) (List.getElem?_eq_getElem hj) h1 h2
   omega
 intro h i j x y g hx hy h1 h2
 obtain ⟨hi,rfl⟩:=List.getElem?_eq_some_iff.1 hx
 obtain ⟨hj,rfl⟩:=List.getElem?_eq_some_iff.1 hy
 rcases Nat.lt_trichotomy i j with hij|hij|hij
 · exact absurd h2 (h i j hi hj hij g h1)
 · exact hij
 exact absurd h1 (h j i hj hi hij g h2)
def DQr (F:Nat→Prop) (w:World) (d r n:Nat) (st:K.Sx) (E:List De):Prop:=
 ∃q B v X,DS w d r v X∧esD X=E∧K.RP w r q n st B∧SZ n st (zE E)∧∀i,F i↔(DF d v X i∨i=r∨i=q∨K.RG st B i)
section
variable {F:Nat→Prop} {w w':World} {d r n:Nat} {st:K.Sx} {E:List De}
theorem DQr.dq (h:DQr F w d r n st E):DQ F w d n st E:=⟨r,h⟩
theorem DQr.later (h:DQr F w d r n st E) (hb:Below w.heap.size w w'):DQr F w' d r n st E:=by
 obtain ⟨q,B,v,X,h1,h2,h3,h4,h5⟩:=h
 exact ⟨q,B,v,X,h1.later hb,h2,h3.later hb,h4,h5⟩
theorem DQr.chg {H:Nat→Prop} (h:DQr F w d r n st E) (hc:Chg H w w') (hF:∀i,F i→¬H i):DQr F w' d r n st E:=by
 obtain ⟨q,B,v,X,h1,h2,h3,h4,h5⟩:=h
 exact ⟨q,B,v,X,h1.chg hc (fun i hi=>hF i ((h5 i).2 (.inl hi))),h2,h3.chg hc (hF r ((h5 r).2 (.inr (.inl rfl)))) (hF q ((h5 q).2 (.inr (.inr (.inl rfl))))) (fun i hi=>hF i ((h5 i).2 (.inr (.inr (.inr hi))))),h4,h5⟩
theorem DQr.sz (h:DQr F w d r n st E):SZ n st (zE E):=h.dq.sz
theorem DQr.lt (h:DQr F w d r n st E) {i:Nat} (hi:F i):i<w.heap.size:=by
 obtain ⟨q,B,v,X,h1,h2,h3,h4,h5⟩:=h
 rcases (h5 i).1 hi with h|rfl|rfl|h
 · exact (DF.tag h1 h).1
 · exact h3.blk.lt
 · exact h3.row.lt
 exact K.RG.lt h3 h
end
section
variable {w w':World} {d r g N c i j:Nat} {v:Value} {X:List Dv} {x y:Dv}
theorem DS.upd (h:DS w d r v X) (hx:X[i]?=some x) (hc:Chg (fun b=>v.ownBlock=some b∨x.2.2.ownBlock=some b) w w') (hw:w'.ownsRow 0 114 4 v X.length (dCs (X.set i y)))
 (hs:w'.ownsRow 0 53 2 y.2.1 y.1.2.2.1.length (cS y.1.2.2.1)) (ht:w'.ownsRow 0 3 1 y.2.2 y.1.2.2.2.length (cI y.1.2.2.2)) (ha:Moved w x.2.2.ownBlock y.2.2.ownBlock):DS w' d r v (X.set i y):=by
 have hxm:=List.mem_of_getElem? hx
 have hil:=(List.getElem?_eq_some_iff.1 hx).1
 have hv:=zab h.row
 have hT:∀b t,Tg w b t→¬t=114→¬t=3→¬(v.ownBlock=some b∨x.2.2.ownBlock=some b):=by
  rintro b t ht h1 h2 (e|e)
  · exact h1 (ht.one (hv b e))
  exact h2 (ht.one (zab (h.slt x hxm) b e))
 have hz:∀z,z∈X.set i y→z=y∨∃k,¬k=i∧X[k]?=some z:=by
  intro z hz
  obtain ⟨k,hk⟩:=List.mem_iff_getElem?.1 hz
  by_cases e:k=i
  · rw [e,List.getElem?_set_self hil] at hk
    exact .inl (Option.some.inj hk).symm
  rw [List.getElem?_set_ne (fun e2=>e e2.symm)] at hk
  exact .inr ⟨k,e,hk⟩
 have hoff:∀k z,¬k=i→X[k]?=some z→∀b,z.2.2.ownBlock=some b→¬(v.ownBlock=some b∨x.2.2.ownBlock=some b):=by
  rintro k z hk hz b hb (e|e)
  · have:=(zab (h.slt z (List.mem_of_getElem? hz)) b hb).one (hv b e)
    cases this
  exact hk (h.apt k i z x b hz hx hb e)
 have hne:∀k z,¬k=i→X[k]?=some z→∀b,z.2.2.ownBlock=some b→¬y.2.2.ownBlock=some b:=by
  intro k z hk hz b hb e
  rcases ha with e2|⟨b2,e2,h2⟩
  · rw [e2] at e
    exact hoff k z hk hz b hb (.inr e)
  rw [e] at e2
  cases e2
  have:=za0 (h.slt z (List.mem_of_getElem? hz)) b hb
  omega
 refine ⟨hc.blk h.blk (hT d 78 h.blk.tg (by decide) (by decide)),by rw [List.length_set];exact hw,fun z hz'=>?_,fun z hz'=>?_,fun a b za zb gb ha' hb' h1 h2=>?_⟩
 · rcases hz z hz' with rfl|⟨k,hk,e⟩
   · exact hs
   exact hc.owns (h.smp z (List.mem_of_getElem? e)) (fun b hb=>hT b 53 (zab (h.smp z (List.mem_of_getElem? e)) b hb) (by decide) (by decide))
 · rcases hz z hz' with rfl|⟨k,hk,e⟩
   · exact ht
   exact hc.owns (h.slt z (List.mem_of_getElem? e)) (fun b hb=>hoff k z hk e b hb)
 by_cases e1:a=i
 · by_cases e2:b=i
   · omega
   rw [List.getElem?_set_ne (fun e=>e2 e.symm)] at hb'
   rw [e1,List.getElem?_set_self hil] at ha'
   cases ha'
   exact absurd h1 (hne b zb e2 hb' gb h2)
 rw [List.getElem?_set_ne (fun e=>e1 e.symm)] at ha'
 by_cases e2:b=i
 · rw [e2,List.getElem?_set_self hil] at hb'
   cases hb'
   exact absurd h2 (hne a za e1 ha' gb h1)
 rw [List.getElem?_set_ne (fun e=>e2 e.symm)] at hb'
 exact h.apt a b za zb gb ha' hb' h1 h2
theorem DS.add {o:ByteArray} {k:Int} {w6:World} {ob:Obj} {g6 c6:Nat} (h:DS w d r v X) (ho:w6.ownsRow 0 114 4 (.slice (some ⟨g6,0,none⟩) (X.length+1) c6) (X.length+1) (dCs X++[.string o,.int .i64 k,.slice none 0 0,.slice none 0 0])) (hp:Pushed (w.alloc ob) w6 v g6):
 DS (w6.setCell ⟨d,1,none⟩ (.slice (some ⟨g6,0,none⟩) (X.length+1) c6)) d r (.slice (some ⟨g6,0,none⟩) (X.length+1) c6) (X++[((o,k,[],[]),.slice none 0 0,.slice none 0 0)])∧Chg (fun b=>b=d∨v.ownBlock=some b) w (w6.setCell ⟨d,1,none⟩ (.slice (some ⟨g6,0,none⟩) (X.length+1) c6))∧Moved w v.ownBlock (some g6):=by
 obtain ⟨k1,k2⟩:=hp.chg
 have hv:=zab h.row
 have hT:∀b t,Tg w b t→¬t=114→¬v.ownBlock=some b:=fun b t ht h1 e=>h1 (ht.one (hv b e))
 have hd:=hT d 78 h.blk.tg (by decide)
 have hc:Chg (fun b=>b=d∨v.ownBlock=some b) w (w6.setCell ⟨d,1,none⟩ (.slice (some ⟨g6,0,none⟩) (X.length+1) c6)):=(k1.mono (fun b _ e=>.inr e)).trans (Chg.set ⟨d,1,none⟩ _ w6) (fun b _ e=>.inl e)
 have hT2:∀b t,Tg w b t→¬t=114→¬t=78→¬(b=d∨v.ownBlock=some b):=by
  rintro b t ht h1 h2 (e|e)
  · rw [e] at ht
    exact h2 (ht.one h.blk.tg)
  exact hT b t ht h1 e
 have hg6:¬g6=d:=by
  intro e
  have h1:=zab ho g6 rfl
  rw [e] at h1
  have:=h1.one (k1.blk h.blk hd).tg
  cases this
 refine ⟨⟨(k1.blk h.blk hd).set 1 _,?_,fun z hz=>?_,fun z hz=>?_,fun a b za zb gb ha hb h1 h2=>?_⟩,hc,k2⟩
 · rw [List.length_append]
   have e:dCs (X++[((o,k,[],[]),.slice none 0 0,.slice none 0 0)])=dCs X++[.string o,.int .i64 k,.slice none 0 0,.slice none 0 0]:=by unfold dCs;rw [List.flatMap_append];rfl
   rw [e]
   exact (Chg.set ⟨d,1,none⟩ _ w6).owns ho (fun g hg e=>by cases hg;exact hg6 e)
 · rcases List.mem_append.1 hz with hz|hz
   · exact hc.owns (h.smp z hz) (fun b hb=>hT2 b 53 (zab (h.smp z hz) b hb) (by decide) (by decide))
   rw [List.mem_singleton.1 hz]
   exact World.ownsRow_nil _ _ _ _
 · rcases List.mem_append.1 hz with hz|hz
   · exact hc.owns (h.slt z hz) (fun b hb=>hT2 b 3 (zab (h.slt z hz) b hb) (by decide) (by decide))
   rw [List.mem_singleton.1 hz]
   exact World.ownsRow_nil _ _ _ _
 have hat:∀(a:Nat) (z:Dv),(X++[((o,k,[],[]),Value.slice none 0 0,Value.slice none 0 0)])[a]?=some z→z.2.2.ownBlock=some gb→X[a]?=some z:=by
  intro a z hz hb
  by_cases e:a<X.length
  · rwa [List.getElem?_append_left e] at hz
  rw [List.getElem?_append_right (by omega)] at hz
  have h9:=List.mem_of_getElem? hz
  rw [List.mem_singleton.1 h9] at hb
  cases hb
 exact h.apt a b za zb gb (hat a za ha h1) (hat b zb hb h2) h1 h2
end
theorem allQ (o:ByteArray) (k:Int) (F:Nat→Prop) (d n:Nat) (st:K.Sx) (E:List De) (w:World) (h:DQ F w d n st E) (hE:E.length≤1000000):
 Calls Tryz.prog 46 #[.pointer (some ⟨d,0,none⟩),.string o,.int .i64 k] w fun e w'=>(∃vl,e=.returned vl∧w.ownsRow 0 53 2 vl (enL (zE E o) k).2.length (cS (enL (zE E o) k).2))∧w'=w:=by
 have hz:=h.sz
 obtain ⟨r,q,B,v,X,h1,rfl,h3,h4,h5⟩:=h
 unfold esD at hE
 rw [List.length_map] at hE
 have H1:=zaa h1
 have HP:=zaa (placeR o k d r v X w h1 hE)
 have HZ:=zaa hz
 obtain ⟨av,cv,hv⟩:=zbk h1.row
 subst hv
 have c1:w.cell? ⟨d,1,none⟩=some (.slice av X.length cv):=h1.blk.cell 1
 obtain ⟨N,hN⟩:∃N,X.length=N:=⟨_,rfl⟩
 rw [hN] at c1 hE
 have HN:=zaa hN
 clear h1 h3 h4 h5 hz hN
 go_enter Tryz.func46,Tryz.ntmps46
 go_wp2_with fail
 refine HP.out.mono ?_
 rintro e w1 ⟨⟨z,rfl,hpl⟩,hw⟩
 obtain rfl:=hw.symm
 clear hw
 rcases hpl with ⟨rfl,hno⟩|⟨i,e,rfl,hi,ho,hk⟩
 · have e0:=zaa (zgm (zE_out hno))
   clear hno
   go_wp2_with fail
   go_ret
   refine ⟨⟨_,rfl,?_⟩,by first|trivial|rfl⟩
   rw [e0.out]
   exact World.ownsRow_nil _ _ _ _
 have hil:=(List.getElem?_eq_some_iff.1 hi).1
 unfold esD at hil
 rw [List.length_map] at hil
 obtain ⟨x,hx⟩:∃x,X[i]?=some x:=⟨X[i],by simp⟩
 have hxe:x.1=e:=by
  have:=esD_at hx
  rw [hi] at this
  exact (Option.some.inj this).symm
 have e0:enL (zE (esD X) o) k=(e.2.2.2,e.2.2.1):=by
  have h9:=enL_in (HZ.out.key o) (e:=enD e) (by
   have:=zE_mem (List.mem_of_getElem? hi)
   rw [ho] at this
   exact this)
  rw [←hk]
  exact h9
 have HS:=zaa (H1.out.smp x (List.mem_of_getElem? hx))
 rw [hxe] at HS
 have HE0:=zaa e0
 have hiz:¬(i:Int)<0:=by omega
 have hil2:(i:Int)<(N:Int):=by have:=HN.out;omega
 obtain ⟨g,rfl,_⟩:∃g,av=some ⟨g,0,none⟩∧True:=by
  rcases H1.out.row.2 with ⟨h1,h2⟩|⟨g,cap,cur,hv,_⟩
  · omega
  injection hv with h1
  exact ⟨g,h1,trivial⟩
 have k2:w.cell? ⟨g,i*4+2,none⟩=some x.2.1:=zai H1.out.row (i*4+2) _ (by have:=zcr X i 2 x hx (by omega);simpa [dC] using this)
 obtain ⟨vl,hvl⟩:∃vl,x.2.1=vl:=⟨_,rfl⟩
 rw [hvl] at k2 HS
 clear hi ho hk hx hxe e0 hvl hil
 go_wp2_with fail
 go_ret
 refine ⟨⟨_,rfl,?_⟩,by first|trivial|rfl⟩
 rw [HE0.out]
 exact HS.out
theorem LayOk.gone {C:List (List Int)} (l:List Sm) (h:LayOk C l) {i:Nat} {G:List (List Sm)} (k:AP C i G) {b:List Int} {g:List Sm} (hb:C[i]?=some b) (hr:rdR b=some g) (hf:¬Ris (G.flatten++g)):False:=by
 have h2:RdAll (C.take (i+1)) (G++[g]):=by
  rw [List.take_add_one,hb]
  exact k.rd.snoc hr
 obtain ⟨r,e⟩:=h.pre h2
 have h3:=h.ris
 rw [e] at h3
 refine hf ?_
 have:=ris_pre h3
 simpa using this
theorem str_inj {l m:List Int} (hl:Byte l) (hm:Byte m) (h:strOfNums l=strOfNums m):l=m:=by
 have:=congrArg K.bts h
 rwa [zcd l hl,zcd m hm] at this
theorem ck_lbs {D:Nat→Prop} {w:World} {base cc X:Nat} {ad:Option Addr} {L:List (List Int)} (h:Ck w base (.slice ad X cc) L D) (hX:L.length=X) (hne:∀b∈L,0<b.length):Lbs w ad L:=by
 intro i b hb
 obtain ⟨xs,h1,h2⟩:=h.row
 obtain ⟨a1,c1,k1,k2,k3,k4,k5⟩:=h2 i b hb
 have hi:=(List.getElem?_eq_some_iff.1 hb).1
 rw [hX] at h1
 obtain ⟨g,rfl,_⟩:=zbc h1 (by omega)
 have hcl:=zai h1 i _ k1
 refine ⟨g,0,a1,c1,rfl,(h.vlt g rfl).2,by rw [Nat.zero_add];exact hcl,k2,k3,k4,fun e=>?_⟩
 subst e
 have hp:=hne b (List.mem_of_getElem? hb)
 obtain ⟨x,hx,_⟩:=k2.cell 0 hp
 cases hx
theorem bequalP (w:World) (a1 a2:Option Addr) (n1 n2 c1 c2:Nat) (b1 b2:List Int) (h1:Sl w a1 n1 b1) (h2:Sl w a2 n2 b2) (hn1:n1≤1000000) (hn2:n2≤1000000):
 Calls Tryz.prog 95 #[.slice a1 n1 c1,.slice a2 n2 c2] w fun e w'=>e=.returned (.bool (decide (b1=b2)))∧w'=w:=by
 have e1:=zav (P:=Tryz.prog) 84 5 9 Tryz.underlying84 Tryz.underlying5 Tryz.underlying9 (cap:=c1) h1
 have e2:=zav (P:=Tryz.prog) 84 5 9 Tryz.underlying84 Tryz.underlying5 Tryz.underlying9 (cap:=c2) h2
 have hb1:=h1.byte
 have hb2:=h2.byte
 have he:((strOfNums b1).toList==(strOfNums b2).toList)=decide (b1=b2):=by
  rw [K.str_eqR]
  refine decide_eq_decide.2 ⟨fun e=>?_,fun e=>by rw [e]⟩
  exact str_inj hb1 hb2 e
 clear h1 h2
 generalize strOfNums b1=s1 at*
 generalize strOfNums b2=s2 at*
 go_enter Tryz.func95,Tryz.ntmps95
 go_wp2_with fail
 go_ret
 first|exact ⟨by rw [he],rfl⟩|(simp only [he];exact ⟨rfl,rfl⟩)|simp [he]
theorem equalFuncP (w:World) (a1 a2:Option Addr) (n1 n2 c1 c2:Nat) (L C:List (List Int)) (h1:Lbs w a1 L) (h2:Lbs w a2 C) (hn1:L.length=n1) (hn2:C.length=n2) (hn:n1≤1000000∧n2≤1000000) (hl:(∀b∈L,b.length≤1000000)∧∀b∈C,b.length≤1000000):
 Calls Tryz.prog 94 #[.slice a1 n1 c1,.slice a2 n2 c2,.func (.func 95) #[] #[]] w fun e w'=>e=.returned (.bool (decide (L=C)))∧w'=w:=by
 have H1:=zaa h1
 have H2:=zaa h2
 have HN:=zaa (And.intro hn1 hn2)
 have HL:=zaa hl
 clear h1 h2 hn1 hn2 hl
 by_cases he:n1=n2
 · subst he
   go_enter Tryz.func94,Tryz.ntmps94
   go_wp2_with fail
   go_loopw [17] (fun s17 wx=>∃i:Nat,s17=.int .i64 (i:Int)∧i≤n1∧Hid (L.take i=C.take i)∧wx=w) (fun s17 _=>n1 - nOf s17)
   case atStart=>exact ⟨0,rfl,by omega,zaa rfl,rfl⟩
   case round=>
    obtain ⟨i,rfl,hi,hE,hw⟩:=hrel
    obtain rfl:=hw.symm
    clear hw
    by_cases hlt:i<n1
    · have hltz:(i:Int)<(n1:Int):=by omega
      obtain ⟨x,hx⟩:∃x,L[i]?=some x:=⟨L[i]'(by rw [HN.out.1];exact hlt),by simp⟩
      obtain ⟨y,hy⟩:∃y,C[i]?=some y:=⟨C[i]'(by rw [HN.out.2];exact hlt),by simp⟩
      obtain ⟨g1,o1,d1,e1,rfl,_,q1,s1,_⟩:=H1.out i x hx
      obtain ⟨g2,o2,d2,e2,rfl,_,q2,s2,_⟩:=H2.out i y hy
      have S1:=zaa s1
      have S2:=zaa s2
      have hx9:=HL.out.1 x (List.mem_of_getElem? hx)
      have hy9:=HL.out.2 y (List.mem_of_getElem? hy)
      have HXY:=zaa (And.intro hx hy)
      clear hx hy s1 s2
      go_wp2_with fail
      refine (bequalP w d1 d2 x.length y.length e1 e2 x y S1.out S2.out hx9 hy9).mono ?_
      rintro e w1 ⟨rfl,hw⟩
      obtain rfl:=hw.symm
      clear hw
      by_cases hxy:x=y
      · rw [decide_eq_true hxy]
        have hst:Hid (L.take (i+1)=C.take (i+1)):=zaa (by rw [List.take_add_one,List.take_add_one,HXY.out.1,HXY.out.2,hE.out,hxy])
        clear hxy
        go_wp2_with fail
        refine ⟨⟨i+1,by first|rfl|simp,by omega,hst,by first|trivial|rfl⟩,?_⟩
        simp [nOf]
        omega
      rw [decide_eq_false hxy]
      have HNE:=zaa hxy
      clear hxy
      go_wp2_with fail
      go_ret
      have:¬L=C:=fun e=>by
       have h1:=HXY.out.1
       rw [e,HXY.out.2] at h1
       exact HNE.out (Option.some.inj h1).symm
      exact ⟨by rw [decide_eq_false this];rfl,by first|trivial|rfl⟩
    have hltz:¬(i:Int)<(n1:Int):=by omega
    have hE2:L=C:=by
     have h1:=hE.out
     rw [List.take_of_length_le (by rw [HN.out.1];omega),List.take_of_length_le (by rw [HN.out.2];omega)] at h1
     exact h1
    go_wp2_with fail
    go_ret
    first|exact ⟨rfl,by first|trivial|rfl⟩|exact ⟨by rw [decide_eq_true hE2];rfl,by first|trivial|rfl⟩
 have hz:¬(n1:Int)=(n2:Int):=by omega
 have hne:¬L=C:=fun e=>he (by rw [←HN.out.1,←HN.out.2,e])
 go_enter Tryz.func94,Tryz.ntmps94
 go_wp2_with fail
 go_ret
 exact ⟨by rw [decide_eq_false hne];rfl,by first|trivial|rfl⟩
theorem asPackedP (w:World) (ad:Option Addr) (X cc:Nat) (C:List (List Int)) (hC:Lbs w ad C) (hX:C.length=X) (hX9:X≤1000) (hl:∀b∈C,b.length≤100000) (hG:Gv w) (hlo:2≤w.heap.size):
 Calls Tryz.prog 81 #[.slice ad X cc] w fun e w'=>Below w.heap.size w w'∧((e=.returned (.bool true)∧∃l,LayOk C l)∨(e=.returned (.bool false)∧∀l,¬LayOk C l)):=by
 have HC:=zaa hC
 have HX:=zaa hX
 have HL:=zaa hl
 have HG:=zaa hG
 have HLO:=zaa hlo
 clear hC hX hl hG hlo
 go_enter Tryz.func81,Tryz.ntmps81
 go_wp2_with (first
  |(refine zap rfl 98 rfl 3 rfl (riC z0 false) info75 ?_;intro w1 B1 bl1 hz1;have HB1:=zaa B1;have BL1:=zaa bl1;clear B1 bl1))
 have hlo1:2≤w1.heap.size:=Nat.le_trans HLO.out BL1.out.size
 refine (packerP w1 hlo1).mono ?_
 rintro e w2 ⟨b,rfl,p2,b2⟩
 obtain ⟨bs,hbs⟩:∃bs,w1.heap.size=bs:=⟨_,rfl⟩
 have htbs:w.heap.size<bs:=by
  have:=HB1.out.lt
  omega
 rw [hbs] at p2 hlo1
 have HR2:=zaa (HB1.out.later b2)
 have P2:=zaa p2
 have B2:=zaa (BL1.out.trans (b2.mono BL1.out.size))
 have hbs2:bs≤w2.heap.size:=by rw [←hbs];exact b2.size
 have HBS:=zaa hbs2
 clear p2 b2 hbs HB1 hbs2
 go_wp2_with fail
 go_loopw [13] (fun s13 wx=>∃i:Nat,s13=.int .i64 (i:Int)∧i≤X∧Hid (∃G,AP C i G∧Blk wx w.heap.size 98 (riC (zau riS G.flatten (z0,false)).2.1 (zau riS G.flatten (z0,false)).2.2)∧PK wx bs b (gF G.flatten))∧Hid (Below w.heap.size w wx)∧Hid (bs≤wx.heap.size)) (fun s13 _=>X - nOf s13)
 case atStart=>exact ⟨0,rfl,by omega,zaa ⟨[],⟨by simp [RdAll],by simp [Ris],by simp,by simp⟩,HR2.out,P2.out⟩,B2,HBS⟩
 case round=>
  rename World=>wr
  obtain ⟨i,rfl,hi,hI,hB,hS⟩:=hrel
  obtain ⟨G,hA,hR,hP⟩:=hI.out
  have HA:=zaa hA
  have HR:=zaa hR
  have HP:=zaa hP
  clear hI hA hR hP HR2 P2 B2 HBS
  by_cases hlt:i<X
  · have hltz:(i:Int)<(X:Int):=by omega
    obtain ⟨c,hc⟩:∃c,C[i]?=some c:=⟨C[i]'(by rw [HX.out];exact hlt),by simp⟩
    obtain ⟨g,off,ad',c',rfl,hgl,hcell,hsl,hcap,hcm,hno⟩:=(HC.out.later hB.out) i c hc
    have hc9:=HL.out c (List.mem_of_getElem? hc)
    obtain ⟨m,hm⟩:∃m,c.length=m:=⟨_,rfl⟩
    rw [hm] at hcell hsl hcap hc9
    have HCC:=zaa hc
    have HSL:=zaa hsl
    have HM:=zaa hm
    have hby:=zaa hsl.byte
    unfold maxLen at hcm
    clear hc hsl hm
    by_cases hbig:m≤128
    · have hbz:¬(m:Int) > 128:=by omega
      go_wp2_with fail
      refine (readP wr ad' m c' c HSL.out ((HG.out.bel hB.out HLO.out)) (by omega) hcap hcm (fun e=>by
       have h0:=hno e
       exact ⟨by omega,h0⟩) (Nat.le_trans HLO.out hB.out.size)).mono ?_
      rintro e w3 ⟨ad3,c3,l3,ec,rfl,o3,k3,b3,hcs⟩
      clear hcap hcm hno hcell hgl hc9
      have O3:=zaa o3
      have K3:=zaa k3
      have B3:=zaa b3
      obtain ⟨N,hN⟩:∃N,l3.length=N:=⟨_,rfl⟩
      rw [hN] at O3 ⊢
      have HN:=zaa hN
      rcases hcs with ⟨hrd,rfl⟩|⟨hrd,rfl,rfl⟩
      · have HRD:=zaa hrd
        have hN9:N≤1000:=by
         have:=za8 (l:=l3) (by rw [(enc_rd hby.out hrd).1,HM.out];exact hbig)
         omega
        have hRt:=zaa ((HR.out.later B3.out))
        have hPt:=zaa ((HP.out.later B3.out))
        have HAD:Hid (∀x,ad3=some x→wr.heap.size≤x.block):=by
         intro x hx
         rcases o3.2 with ⟨e0,_⟩|⟨g9,cap,cur,e0,hg9,_⟩
         · injection e0 with e0
           rw [e0] at hx
           cases hx
         injection e0 with e0
         rw [e0] at hx
         cases hx
         exact hg9
        clear o3 k3 b3 hN hrd hbz
        go_wp2_with fail
        refine (zeq w3 w.heap.size (zau riS G.flatten (z0,false)).2 ad3 N c3 l3 hRt.out (zan O3.out K3.out) HN.out (by omega) (fun x hx h0 e=>by
         have q1:=HAD.out x hx
         have q2:=hB.out.size
         have q4:=hS.out
         omega)).mono ?_
        rintro e w4 ⟨rfl,t4,g4⟩
        rw [ri_two HA.out.ris]
        have G4:=zaa g4
        have T4:=zaa t4
        have P4:=zaa (hPt.out.chg g4 (fun q hq e=>by have e2:q=w.heap.size:=e;omega))
        have O4:=zaa (G4.out.owns O3.out (fun q hq e=>by
         have q1:=(O3.out.lt q hq).1
         have e2:q=w.heap.size:=e
         have q4:=hS.out
         omega))
        have hB4:Hid (Below w.heap.size w w4):=zaa ((hB.out.trans (B3.out.mono hB.out.size)).trans (g4.below (Nat.le_trans hB.out.size B3.out.size) (fun q e=>by have e2:q=w.heap.size:=e;omega)))
        have hS4:Hid (bs≤w4.heap.size):=zaa (Nat.le_trans hS.out (Nat.le_trans B3.out.size g4.size))
        clear t4 g4
        by_cases hr:Ris (G.flatten++l3)
        · have HRI:=zaa hr
          rw [decide_eq_true hr]
          clear hr
          go_wp2_with fail
          have hfe:=HA.out.few
          refine (eachPack2 w4 bs b wr.heap.size (gF G.flatten) ad3 N c3 l3 P4.out (okG HA.out.ok) (HG.out.bel hB4.out HLO.out) O4.out K3.out HN.out (by omega) (by have:=gF_few G.flatten;omega) hlo1 hS4.out).mono ?_
          rintro e w5 ⟨rfl,p5,b5,s5⟩
          rw [←gF_app] at p5
          have P5:=zaa p5
          have B5:=zaa b5
          clear p5 b5 s5
          go_wp2_with fail
          refine ⟨⟨i+1,by first|rfl|simp,by omega,zaa ⟨G++[l3],HA.out.next HCC.out HRD.out hby.out (by rw [HM.out];exact hbig) HRI.out,?_,?_⟩,zaa (hB4.out.trans (B5.out.mono (by omega))),zaa (Nat.le_trans hS4.out B5.out.size)⟩,?_⟩
          · have e1:(G++[l3]).flatten=G.flatten++l3:=by simp
            rw [e1,foldE_app riS G.flatten l3 (z0,false) (by rw [(zdn G.flatten).1];exact decide_eq_true HA.out.ris)]
            exact (B5.out.block w.heap.size htbs).trans T4.out
          · have e1:(G++[l3]).flatten=G.flatten++l3:=by simp
            rw [e1]
            exact P5.out
          simp [nOf]
          omega
        have HRI:=zaa hr
        rw [decide_eq_false hr]
        clear hr
        go_wp2_with fail
        go_ret
        exact ⟨hB4.out,.inr ⟨rfl,fun l hl=>hl.gone l HA.out HCC.out HRD.out HRI.out⟩⟩
      have HRD:=zaa hrd
      clear o3 k3 b3 hN hrd
      go_wp2_with fail
      go_ret
      refine ⟨hB.out.trans (B3.out.mono hB.out.size),.inr ⟨rfl,fun l hl=>?_⟩⟩
      obtain ⟨g9,_,_,_,h9,_⟩:=hl.grp HCC.out
      rw [HRD.out] at h9
      cases h9
    have hbz:(m:Int) > 128:=by omega
    go_wp2_with fail
    go_ret
    refine ⟨hB.out,.inr ⟨rfl,fun l hl=>?_⟩⟩
    obtain ⟨g9,_,_,h9,_⟩:=hl.grp HCC.out
    rw [HM.out] at h9
    omega
  have hltz:¬(i:Int)<(X:Int):=by omega
  have hiX:C.take i=C:=List.take_of_length_le (by rw [HX.out];omega)
  have hrd:=HA.out.rd
  rw [hiX] at hrd
  have HRD:=zaa hrd
  have hk:=okG HA.out.ok
  have hfe:=HA.out.few
  have hgl:(gO (gF G.flatten)).length≤1000000:=by
   have h1:=zdt hk
   rw [zbd] at h1
   omega
  have HGL:=zaa hgl
  clear hrd hiX hgl
  go_wp2_with fail
  refine (chunksP HP.out hk (by have:=za8 hk.fit2;omega) (by have:=gF_few G.flatten;omega) hS.out).mono ?_
  rintro e w3 ⟨a3,c3,D3,rfl,k3,b3⟩
  rw [List.length_map] at k3 ⊢
  have hB3:Hid (Below w.heap.size w w3):=zaa (hB.out.trans (b3.mono (by omega)))
  have HLB:Hid (Lbs w3 a3 ((gO (gF G.flatten)).map encC)):=zaa (ck_lbs k3 (by rw [List.length_map]) (fun q hq=>by
   obtain ⟨g9,h9,rfl⟩:=List.mem_map.1 hq
   rw [zbl (zcs hk g9 h9).1]
   omega))
  have HOK:=zaa hk
  obtain ⟨M,hM⟩:∃M,(gO (gF G.flatten)).length=M:=⟨_,rfl⟩
  have HM:=zaa hM
  have hM9:=HGL.out
  rw [hM] at hM9 ⊢
  clear k3 b3 hk hM HGL
  by_cases hM0:M=0
  · subst hM0
    go_wp2_with fail
    go_ret
    refine ⟨hB3.out,.inr ⟨rfl,fun l hl=>?_⟩⟩
    have e1:=hl.flat HRD.out
    have e2:=hl.nempty
    rw [←hl.eq,←e1] at e2
    exact e2 (by rw [List.eq_nil_of_length_eq_zero HM.out];rfl)
  have hMz:(M:Int) > 0:=by omega
  go_wp2_with fail
  refine (equalFuncP w3 a3 ad M X c3 cc _ C HLB.out (HC.out.later hB3.out) (by rw [List.length_map];exact HM.out) HX.out ⟨by omega,by omega⟩ ⟨fun q hq=>?_,fun q hq=>by have:=HL.out q hq;omega⟩).mono ?_
  · obtain ⟨g9,h9,rfl⟩:=List.mem_map.1 hq
    have:=(zcs HOK.out g9 h9).2.1
    omega
  rintro e w4 ⟨rfl,hw⟩
  obtain rfl:=hw.symm
  clear hw
  go_wp2_with fail
  go_ret
  by_cases hE:(gO (gF G.flatten)).map encC=C
  · rw [decide_eq_true hE]
    refine ⟨hB3.out,.inl ⟨rfl,G.flatten,?_,HA.out.ris,HA.out.ok,hE⟩⟩
    intro e
    rw [e] at HM
    exact hM0 HM.out.symm
  rw [decide_eq_false hE]
  refine ⟨hB3.out,.inr ⟨rfl,fun l hl=>hE ?_⟩⟩
  rw [hl.flat HRD.out]
  exact hl.eq
theorem Stm.lookB {w:World} {S p T n:Nat} {sh:ByteArray→Option Nat} {R:ByteArray→Int→Value} {st:K.Sx} {Z:ByteArray→List En} (h:Stm w S p T sh R Z) (hz:SZ n st Z) (o:ByteArray) (k:Int):(Instr.lookup 95 (.map (sh o)) (.int .i64 k) true).run Tryz.prog w=.ok (.tuple #[slV R Z o k,.bool (!(enL (Z o) k).2.isEmpty)]) w:=by
 have hb:(al ((Z o).map fun e=>(e.1,R o e.1)) k).isSome=!(enL (Z o) k).2.isEmpty:=by
  rcases zbz (l:=Z o) (k:=k) with hm|⟨he,hm⟩
  · have hne:=(hz.each o _ hm).ne
    have h9:((Z o).map fun e=>(e.1,R o e.1)).Pairwise (fun p q=>¬p.1=q.1):=by rw [List.pairwise_map];exact hz.key o
    rw [zdx h9 (List.mem_map.2 ⟨_,hm,rfl⟩)]
    simp only at hne
    cases e:(enL (Z o) k).2 with
    |nil=>exact absurd e hne
    |cons a b=>rfl
  rw [zdh (by intro q hq;obtain ⟨e,he,rfl⟩:=List.mem_map.1 hq;exact hm e he),he]
  rfl
 cases e:sh o with
 |none=>
  have h9:=ze4 (w:=w) K.kyI Tryz.underlying95 (zero23 w) k true
  rw [if_pos rfl] at h9
  have e2:slV R Z o k=.slice none 0 0:=by unfold slV;rw [h.non o e];rfl
  rw [e2,←hb,h.non o e]
  exact h9
 |some sb=>
  have h9:=(h.set o sb e).1.look K.kyI Tryz.underlying95 (zero23 w) k true
  rw [if_pos rfl] at h9
  rw [←hb]
  exact h9
def LyV (F:Nat→Prop) (w:World) (S p n:Nat) (st:K.Sx) (Z:ByteArray→List En) (o:ByteArray) (k:Int) (C:List (List Int)) (A:List Sm) (X lf:Nat) (e:Ending) (w':World):Prop:=
 (Below w.heap.size w w'∧(((k<0∨A≠[])∧e=.returned (.int .i64 1))∨(0≤k∧A=[]∧(∀l,¬LayOk C l)∧e=.returned (.int .i64 100))∨(0≤k∧A=[]∧(∃l,LayOk C l)∧lf<X∧e=.returned (.int .i64 110))))∨
 (0≤k∧A=[]∧X≤lf∧e=.returned (.int .i64 0)∧∃l,LayOk C l∧KpP F w S p n st Z o k l X w')
def LyP (F:Nat→Prop) (w:World) (S p n:Nat) (st:K.Sx) (Z:ByteArray→List En) (o:ByteArray) (k:Int) (C:List (List Int)):Ending→World→Prop:=LyV F w S p n st Z o k C (enL (Z o) k).2 C.length (n - (K.tkL st n).length)
theorem slayP (o:ByteArray) (k:Int) (F:Nat→Prop) (S p n:Nat) (st:K.Sx) (Z:ByteArray→List En) (ad:Option Addr) (X cc base:Nat) (D:Nat→Prop) (C:List (List Int)) (w:World) (h:SQ F w S p n st Z) (hG:Gv w) (hlo:2≤w.heap.size) (hF:∀i,F i→2≤i∧i<base)
 (hC:Ck w base (.slice ad X cc) C D) (hB:Lbs w ad C) (hX:C.length=X) (hX9:X≤1000) (hl:∀b∈C,b.length≤100000):
 Calls Tryz.prog 59 #[.pointer (some ⟨S,0,none⟩),.string o,.int .i64 k,.slice ad X cc] w (LyP F w S p n st Z o k C):=by
 have hz:=h.sz
 have hen:=hz.en o k
 obtain ⟨T,sh,R,G,h1,h2,h3,h4,h5⟩:=h
 have h:SQ F w S p n st Z:=⟨T,sh,R,G,h1,h2,h3,h4,h5⟩
 have l1:=h1.lookT o
 have l2:=h1.lookB hz o k
 have c0:w.cell? ⟨S,0,none⟩=some (.pointer (some ⟨p,0,none⟩)):=h1.blk.cell 0
 have c1:w.cell? ⟨S,1,none⟩=some (.map (some T)):=h1.blk.cell 1
 have HAP:=zaa (asPackedP w ad X cc C hB hX hX9 hl hG hlo)
 have CP:Hid (∀wx,Below w.heap.size w wx→wx.cell? ⟨S,0,none⟩=some (.pointer (some ⟨p,0,none⟩))):=zaa (fun wx hb=>(h1.blk.later hb).cell 0)
 have HLF:=zaa (fun (wx:World) (hb:Below w.heap.size w wx)=>K.leftX G p n st wx (h2.later hb))
 have HKP:Hid (∀wx,Below w.heap.size w wx→0≤k→(enL (Z o) k).2=[]→∀l,LayOk C l→X+(K.tkL st n).length≤n→Calls Tryz.prog 35 #[.pointer (some ⟨S,0,none⟩),.string o,.int .i64 k,.slice ad X cc] wx fun e w'=>e=.returned (.tuple #[])∧KpP F wx S p n st Z o k l X w'):=by
  intro wx hb e1 hA l hok hr
  have e2:=hen.2.2.2.2 hA
  have e3:gO (gB (enL (Z o) k).2 l)=gO (gF l):=by rw [hA];rfl
  refine keepP o k F S p n st Z ad X cc base D l wx (h.later hb) (hG.later hb) e1 hok.ne (by rw [hA];exact hok.ris) hok.ok hF (by rw [e3,hok.eq];exact hC.later hb) ?_ (by omega) (by rw [e2];show X - 0+_≤n;omega)
  have e4:=congrArg List.length hok.eq
  rw [e3]
  simpa [hX] using e4
 have htl:=K.tkL_len st n
 have hn1:=h2.n1
 have HX:=zaa hX
 unfold LyP
 rw [hX]
 obtain ⟨A,hA⟩:∃A,(enL (Z o) k).2=A:=⟨_,rfl⟩
 rw [hA] at l2 HKP ⊢
 obtain ⟨vs,hvs⟩:∃vs,slV R Z o k=vs:=⟨_,rfl⟩
 rw [hvs] at l2
 clear h hz hen hG hlo hB hX hl h1 h2 h3 h4 h5 hF hC hA hvs
 obtain ⟨Y,hY⟩:∃Y,(K.tkL st n).length=Y:=⟨_,rfl⟩
 rw [hY] at htl HLF HKP ⊢
 obtain ⟨lf,hlf⟩:∃lf,n - Y=lf:=⟨_,rfl⟩
 rw [hlf] at HLF ⊢
 have HLFE:=zaa hlf
 clear hlf hY
 by_cases hk:k<0
 · have HK:=zaa hk
   go_enter Tryz.func59,Tryz.ntmps59
   go_wp2_with fail
   go_ret
   unfold LyV
   exact .inl ⟨Below.refl _ _,.inl ⟨.inl HK.out,rfl⟩⟩
 have hk0:decide (k<0)=false:=by simpa using hk
 have HK:=zaa (show 0≤k by omega)
 cases hA:A with
 |cons a b=>
  rw [hA] at l2
  have HA:=zaa (show A≠[] by rw [hA];simp)
  have l2':(Instr.lookup 95 (.map (sh o)) (.int .i64 k) true).run Tryz.prog w=.ok (.tuple #[vs,.bool true]) w:=l2
  clear l2
  go_enter Tryz.func59,Tryz.ntmps59
  go_wp2_with fail
  go_ret
  unfold LyV
  exact .inl ⟨Below.refl _ _,.inl ⟨.inr (by simp),rfl⟩⟩
 |nil=>
  rw [hA] at l2
  have HA:=zaa hA
  have l2':(Instr.lookup 95 (.map (sh o)) (.int .i64 k) true).run Tryz.prog w=.ok (.tuple #[vs,.bool false]) w:=l2
  clear l2 hA
  go_enter Tryz.func59,Tryz.ntmps59
  go_wp2_with fail
  refine HAP.out.mono ?_
  rintro e w1 ⟨b1,hh⟩
  have B1:=zaa b1
  clear b1 HAP l1 l2' c1 c0
  rcases hh with ⟨rfl,hok⟩|⟨rfl,hok⟩
  · have HOK:=zaa hok
    have cp:=CP.out w1 B1.out
    clear hok
    go_wp2_with fail
    refine (HLF.out w1 B1.out).mono ?_
    rintro e w2 ⟨rfl,b2⟩
    have B2:Hid (Below w.heap.size w w2):=zaa (B1.out.trans (b2.mono B1.out.size))
    clear b2
    by_cases hlt:X > lf
    · have hltz:(X:Int) > (lf:Int):=by omega
      go_wp2_with fail
      go_ret
      unfold LyV
      exact .inl ⟨B2.out,.inr (.inr ⟨HK.out,rfl,HOK.out,hlt,rfl⟩)⟩
    have hltz:¬(X:Int) > (lf:Int):=by omega
    have hle:X≤lf:=by omega
    have HLE:=zaa hle
    clear hlt hle
    go_wp2_with fail
    obtain ⟨l,hl⟩:=HOK.out
    have HL:=zaa hl
    clear hl
    refine (HKP.out w2 B2.out HK.out HA.out l HL.out (by have:=HLE.out;have:=HLFE.out;omega)).mono ?_
    rintro e w3 ⟨rfl,k3⟩
    have K3:=zaa (kpP_from k3 B2.out)
    clear k3
    go_wp2_with fail
    go_ret
    unfold LyV
    exact .inr ⟨HK.out,rfl,HLE.out,rfl,l,HL.out,K3.out⟩
  have HOK:=zaa hok
  clear hok
  go_wp2_with fail
  go_ret
  unfold LyV
  exact .inl ⟨B1.out,.inr (.inl ⟨HK.out,rfl,HOK.out,rfl⟩)⟩
theorem built78q (r:Nat):Tryz.prog.built 78 [(0,.pointer (some ⟨r,0,none⟩))]=some #[.pointer (some ⟨r,0,none⟩),.slice none 0 0]:=by kernel_rfl
theorem sz_none (n:Nat):SZ n (fun _=>none) (zE []):=
 ⟨fun o=>List.Pairwise.nil,fun o e he=>by simp [zE] at he,fun o=>by simp [zE],fun o i=>by simp [zE],fun i o d h=>by cases h⟩
end Go.Proofs.YtlppibigceeimaaGreatDoor
