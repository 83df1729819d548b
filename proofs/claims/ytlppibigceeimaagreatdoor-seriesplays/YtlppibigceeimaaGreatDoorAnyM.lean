import Derived.Test.YtlppibigceeimaaGreatDoorAny
import Derived.Test.YtlppibigceeimaaGreatDoorBlk
set_option linter.unusedSimpArgs false
set_option linter.unusedVariables false
set_option maxHeartbeats 40000000
set_option maxRecDepth 100000
namespace Go.Proofs.YtlppibigceeimaaGreatDoor
open Go.RowKit
theorem getD_put (b:Act) (d t:Tmp) (v:Value) (hv:b.tmps.size≤d→v=undef):(b.put (some d) v).tmps.getD t undef=if t=d then v else b.tmps.getD t undef:=by
 by_cases h:t=d
 · subst h
   rw [if_pos rfl]
   by_cases h2:t<b.tmps.size
   · exact za7 b t v h2
   rw [hv (Nat.le_of_not_lt h2)]
   have e:(b.put (some t) undef).tmps=b.tmps.setIfInBounds t undef:=rfl
   rw [e,Array.getD_eq_getD_getElem?,Array.getElem?_setIfInBounds]
   simp [h2]
 rw [if_neg h]
 exact zad b d t v h
theorem frame_eq {a b:Act} (hs:b.tmps.size=a.tmps.size) (hd:b.defers=a.defers) (h:∀t,b.tmps.getD t undef=a.tmps.getD t undef):b=a:=by
 cases a with
 |mk ta da=>
  cases b with
  |mk tb db=>
   simp only at hs hd h
   subst hd
   congr 1
   refine Array.ext hs (fun i h1 h2=>?_)
   have:=h i
   simpa [Array.getD_eq_getD_getElem?,h1,h2] using this
theorem zam {ops:Array Oper} {a0 a:Act} (h:Same ops a0 a):a=(dsts ops).foldl (fun b d=>b.put (some d) (a.tmps.getD d undef)) a0:=by
 have key:∀(l:List Tmp) (b:Act),b.tmps.size=a.tmps.size→b.defers=a.defers→(∀t,l.contains t=false→b.tmps.getD t undef=a.tmps.getD t undef)→l.foldl (fun b d=>b.put (some d) (a.tmps.getD d undef)) b=a:=by
  intro l
  induction l with
  |nil=>intro b h1 h2 h3;exact frame_eq h1 h2 (fun t=>h3 t (by simp))
  |cons d l ih=>
   intro b h1 h2 h3
   rw [List.foldl_cons]
   refine ih _ ?_ h2 (fun t ht=>?_)
   · have e:(b.put (some d) (a.tmps.getD d undef)).tmps=b.tmps.setIfInBounds d (a.tmps.getD d undef):=rfl
     rw [e,Array.size_setIfInBounds];exact h1
   rw [getD_put b d t _ (fun hge=>by simp [Array.getD_eq_getD_getElem?,show a.tmps.size≤d by omega])]
   by_cases e:t=d
   · rw [if_pos e,e]
   rw [if_neg e]
   exact h3 t (by
    have:¬t∈l:=by simpa using ht
    simp [e,this])
 exact (key (dsts ops) a0 h.size.symm h.defers.symm (fun t ht=>(h.slot t ht).symm)).symm
def zag (n:Nat):Code→Option Code
 |.region id ops b=>if id=n then some (.region id ops b) else none
 |.seq a b=>match zag n a with
  |some c=>some c
  |none=>zag n b
 |.block _ c=>zag n c
 |.scope c=>zag n c
 |.loop c=>zag n c
 |.cond _ a b=>match zag n a with
  |some c=>some c
  |none=>zag n b
 |_=>none
def Lat (u v:World):Prop:=Below u.heap.size u v
theorem Lat.refl (w:World):Lat w w:=Below.refl _ _
theorem Lat.trans (a b c:World) (h:Lat a b) (k:Lat b c):Lat a c:=Below.trans h (Below.mono k h.size)
theorem Lat.draw (w:World):Lat w { w with drawn:=w.drawn+1 }:=⟨rfl,rfl,rfl,Nat.le_refl _,fun _ _=>rfl⟩
def TV (tab:List Value) (i:Nat) (v:Value) (w:World):Prop:=∀c,tab[i]?=some c→v=c
theorem TV.stable (tab:List Value):∀i v w w',TV tab i v w→Lat w w'→TV tab i v w':=fun _ _ _ _ h _=>h
theorem TV.mk {tab:List Value} {i:Nat} {v:Value} {w:World} (h:tab[i]?=some v):TV tab i v w:=fun c hc=>by rw [h] at hc;exact Option.some.inj hc
section
variable {P:Program} {ops:Array Oper} {Q:Exit→Act→World→Prop} {a0 a:Act} {w:World} {i:Nat} {o oj:Oper} {af:Array Edge} {v:Value} {t:Nat} {T:Nat→Value→World→Prop} {tab:List Value} {ten:List (Ent Lat)} {b c:Bool} {j:Nat}
theorem zs (hS:Same ops a0 a) (s:a0.tmps.getD t undef=v) (h:(dsts ops).contains t=false:=by kernel_rfl):a.tmps.getD t undef=v:=(hS.slot t h).trans s
theorem zof {u:Value} (h:zcc a oj=u) (hs:oj.dst=some t):a.tmps.getD t undef=u:=by
 unfold zcc at h
 rw [hs] at h
 exact h
theorem zd (hD:∀e∈af,Region.binds .any e=true→∀oj,ops[e.on]?=some oj→TV tab e.on (zcc a oj) w) (j s:Nat) (hm:(⟨j,.data⟩:Edge)∈af:=by simp) (ho:ops[j]?=some oj:=by rfl) (hs:oj.dst=some s:=by rfl) (hv:tab[j]?=some v:=by rfl):a.tmps.getD s undef=v:=zof (hD _ hm rfl oj ho v hv) hs
theorem zg (hD:∀e∈af,Region.binds .any e=true→∀oj,ops[e.on]?=some oj→TV tab e.on (zcc a oj) w) (j s:Nat) (hm:(⟨j,.guard⟩:Edge)∈af:=by simp) (ho:ops[j]?=some oj:=by rfl) (hs:oj.dst=some s:=by rfl) (hv:tab[j]?=some v:=by rfl):a.tmps.getD s undef=v:=zof (hD _ hm rfl oj ho v hv) hs
theorem ze {u:Value} (h:TE ten j u w) (hv:ten[j]?=some (Ent.val v)):u=v:=by
 unfold TE at h
 rw [hv] at h
 exact h
theorem zde (hD:∀e∈af,Region.binds .any e=true→∀oj,ops[e.on]?=some oj→TE ten e.on (zcc a oj) w) (j s:Nat) (hm:(⟨j,.data⟩:Edge)∈af:=by simp) (ho:ops[j]?=some oj:=by rfl) (hs:oj.dst=some s:=by rfl) (hv:ten[j]?=some (Ent.val v):=by rfl):a.tmps.getD s undef=v:=zof (ze (hD _ hm rfl oj ho) hv) hs
theorem zge (hD:∀e∈af,Region.binds .any e=true→∀oj,ops[e.on]?=some oj→TE ten e.on (zcc a oj) w) (j s:Nat) (hm:(⟨j,.guard⟩:Edge)∈af:=by simp) (ho:ops[j]?=some oj:=by rfl) (hs:oj.dst=some s:=by rfl) (hv:ten[j]?=some (Ent.val v):=by rfl):a.tmps.getD s undef=v:=zof (ze (hD _ hm rfl oj ho) hv) hs
theorem zl {L:List Value} (hv:L[j]?=some v):L.getD j undef=v:=by simp [hv]
theorem zdc {L:List Value} (hD:∀e∈af,Region.binds .any e=true→∀oj,ops[e.on]?=some oj→zbe a oj=L.getD e.on undef) (j s:Nat) (hm:(⟨j,.data⟩:Edge)∈af:=by simp) (ho:ops[j]?=some oj:=by rfl) (hs:zga oj=some s:=by rfl) (hv:L[j]?=some v:=by rfl):a.tmps.getD s undef=v:=by
 have h:=hD _ hm rfl oj ho
 unfold zbe at h
 rw [hs] at h
 exact h.trans (zl hv)
theorem zgc {L:List Value} (hD:∀e∈af,Region.binds .any e=true→∀oj,ops[e.on]?=some oj→zbe a oj=L.getD e.on undef) (j s:Nat) (hm:(⟨j,.guard⟩:Edge)∈af:=by simp) (ho:ops[j]?=some oj:=by rfl) (hs:zga oj=some s:=by rfl) (hv:L[j]?=some v:=by rfl):a.tmps.getD s undef=v:=by
 have h:=hD _ hm rfl oj ho
 unfold zbe at h
 rw [hs] at h
 exact h.trans (zl hv)
theorem zc {L:List Value} (hv:L[i]?=some v) (h:(execOp a.eval o).run P w=.ok (.value v) w) (hg:o.guard=none:=by rfl) (ht:told o a v=v:=by rfl):
 Region.wanted o (yielded ops a.tmps)=true∧∃v,(execOp a.eval o).run P w=.ok (.value v) w∧told o a v=L.getD i undef:=⟨by simp [Region.wanted,hg],v,h,ht.trans (zl hv).symm⟩
theorem zcg {L:List Value} (d:a.tmps.getD t undef=.bool b) (hv:L[i]?=some v) (h:(execOp a.eval o).run P w=.ok (.value v) w) (hg:o.guard=some (j,b):=by rfl) (hj:ops[j]?=some oj:=by rfl) (hd:oj.dst=some t:=by rfl) (ht:told o a v=v:=by rfl):
 Region.wanted o (yielded ops a.tmps)=true∧∃v,(execOp a.eval o).run P w=.ok (.value v) w∧told o a v=L.getD i undef:=⟨zas hg hj hd d,v,h,ht.trans (zl hv).symm⟩
theorem zy (hv:tab[i]?=some v) (h:(execOp a.eval o).run P w=.ok (.value v) w) (hg:o.guard=none:=by rfl):
 if Region.wanted o (yielded ops a.tmps)=true then o.wp P a w (fun a' w'=>∃v,a'=a.put o.dst v∧Lat w w'∧TV tab i v w') Q else TV tab i undef w:=zat (by simp [Region.wanted,hg]) (zbu Lat.refl v h (TV.mk hv))
theorem zyg (d:a.tmps.getD t undef=.bool b) (hv:tab[i]?=some v) (h:(execOp a.eval o).run P w=.ok (.value v) w) (hg:o.guard=some (j,b):=by rfl) (hj:ops[j]?=some oj:=by rfl) (hd:oj.dst=some t:=by rfl):
 if Region.wanted o (yielded ops a.tmps)=true then o.wp P a w (fun a' w'=>∃v,a'=a.put o.dst v∧Lat w w'∧TV tab i v w') Q else TV tab i undef w:=zat (zas hg hj hd d) (zbu Lat.refl v h (TV.mk hv))
theorem zn (d:a.tmps.getD t undef=.bool c) (hv:tab[i]?=some undef:=by rfl) (hg:o.guard=some (j,b):=by rfl) (hj:ops[j]?=some oj:=by rfl) (hd:oj.dst=some t:=by rfl) (hc:(c==b)=false:=by rfl):
 if Region.wanted o (yielded ops a.tmps)=true then o.wp P a w (fun a' w'=>∃v,a'=a.put o.dst v∧Lat w w'∧TV tab i v w') Q else TV tab i undef w:=step_no (wanted_no hg hj hd d hc) (TV.mk hv)
theorem zmk (hv:ten[i]?=some (Ent.val v)):TE ten i v w:=by
 unfold TE
 rw [hv]
 rfl
theorem zye (hv:ten[i]?=some (Ent.val v)) (h:(execOp a.eval o).run P w=.ok (.value v) w) (hg:o.guard=none:=by rfl):
 if Region.wanted o (yielded ops a.tmps)=true then o.wp P a w (fun a' w'=>∃v,a'=a.put o.dst v∧Lat w w'∧TE ten i v w') Q else TE ten i undef w:=zat (by simp [Region.wanted,hg]) (zbu Lat.refl v h (zmk hv))
theorem zyge (d:a.tmps.getD t undef=.bool b) (hv:ten[i]?=some (Ent.val v)) (h:(execOp a.eval o).run P w=.ok (.value v) w) (hg:o.guard=some (j,b):=by rfl) (hj:ops[j]?=some oj:=by rfl) (hd:oj.dst=some t:=by rfl):
 if Region.wanted o (yielded ops a.tmps)=true then o.wp P a w (fun a' w'=>∃v,a'=a.put o.dst v∧Lat w w'∧TE ten i v w') Q else TE ten i undef w:=zat (zas hg hj hd d) (zbu Lat.refl v h (zmk hv))
theorem zne (d:a.tmps.getD t undef=.bool c) (hv:ten[i]?=some (Ent.val undef):=by rfl) (hg:o.guard=some (j,b):=by rfl) (hj:ops[j]?=some oj:=by rfl) (hd:oj.dst=some t:=by rfl) (hc:(c==b)=false:=by rfl):
 if Region.wanted o (yielded ops a.tmps)=true then o.wp P a w (fun a' w'=>∃v,a'=a.put o.dst v∧Lat w w'∧TE ten i v w') Q else TE ten i undef w:=step_no (wanted_no hg hj hd d hc) (zmk hv)
end
section
variable {P:Program} {ops:Array Oper} {Q:Exit→Act→World→Prop} {V:Nat→Value} {I:Nat→World→Prop} {q:Nat→Nat} {m:Nat} {a0:Act}
def ReadOkC (P:Program) (ops:Array Oper) (V:Nat→Value) (I:World→Prop) (a0:Act) (i:Nat) (o:Oper):Prop:=
 ∀(a:Act) (w:World),I w→Same ops a0 a→(∀e∈o.after,Region.binds .any e=true→∀oj,ops[e.on]?=some oj→zbe a oj=V e.on)→
  Region.wanted o (yielded ops a.tmps)=true∧∃v,(execOp a.eval o).run P w=.ok (.value v) w∧told o a v=V i
def CallOkC (P:Program) (ops:Array Oper) (Q:Exit→Act→World→Prop) (V:Nat→Value) (I J:World→Prop) (a0:Act) (i:Nat) (o:Oper):Prop:=
 ∀(a:Act) (w:World),I w→Same ops a0 a→(∀e∈o.after,Region.binds .any e=true→∀oj,ops[e.on]?=some oj→zbe a oj=V e.on)→
  Region.wanted o (yielded ops a.tmps)=true∧o.wp P a w (fun a' w'=>∃v,a'=a.put o.dst v∧J w'∧told o a v=V i) Q
theorem wpAny_calls (hap:zck ops=true) (hf:zbr ops=true) (hsz:zb3 ops a0.tmps.size=true) (hinj:∀j k,j<m→k<m→q j=q k→j=k) (hqs:∀j,j<m→q j<ops.size)
 (hwait:∀j,j+1<m→∀oB,ops[q (j+1)]?=some oB→∃e∈oB.after,Region.binds .any e=true∧e.on=q j)
 (hop:∀i o,ops[i]?=some o→(∀j,j<m→i≠q j)→ReadOkC P ops V (fun w=>∃k,k≤m∧I k w) a0 i o)
 (hA:∀k,k<m→∀o,ops[q k]?=some o→CallOkC P ops Q V (I k) (I (k+1)) a0 (q k) o)
 (hdone:∀a w,I m w→Same ops a0 a→(∀i o,ops[i]?=some o→zbe a o=V i)→Q .normal a w):
 ∀(fuel:Nat) (listed:Array Bool) (a:Act) (w:World),listed.size=ops.size→listed.toList.countP id+fuel=ops.size→
  (∃k,k≤m∧I k w∧∀j,j<m→listed.getD (q j) true=decide (j<k))→Same ops a0 a→
  (∀i o,ops[i]?=some o→listed.getD i true=true→zbe a o=V i∧∀e∈o.after,Region.binds .any e=true→listed.getD e.on false=true)→wpAny P .any ops Q fuel listed a w:=by
 have hfull:∀(listed:Array Bool) (w:World),(∃k,k≤m∧I k w∧∀j,j<m→listed.getD (q j) true=decide (j<k))→(∀i,i<ops.size→listed.getD i true=true)→I m w:=by
  rintro listed w ⟨k,hk,hI,hj⟩ hall
  by_cases e:k=m
  · rw [←e];exact hI
  have h1:=hj k (by omega)
  rw [hall (q k) (hqs k (by omega))] at h1
  simp at h1
 intro fuel
 induction fuel with
 |zero=>
  intro listed a w hl hc hph hs hT
  have hall2:∀i,i<ops.size→listed.getD i true=true:=by
   intro i hi
   have:=List.countP_eq_length.1 (show listed.toList.countP id=listed.toList.length by rw [Array.length_toList];omega) listed[i] (by simp)
   rw [Array.getD_eq_getD_getElem?]
   simpa [show i<listed.size by omega] using this
  refine ⟨?_,hdone a w (hfull listed w hph hall2) hs fun i o hi=>(hT i o hi (hall2 i (Array.getElem?_eq_some_iff.1 hi).1)).1⟩
  cases hr:Region.ready .any ops listed with
  |nil=>rfl
  |cons j t=>
   exfalso
   have hj:j∈Region.ready .any ops listed:=by rw [hr];simp
   rw [mem_ready] at hj
   obtain ⟨h0,o,ho,_⟩:=hj
   rw [hall2 j (Array.getElem?_eq_some_iff.1 ho).1] at h0
   cases h0
 |succ fuel ih=>
  intro listed a w hl hc hph hs hT
  refine ⟨fun hr=>hdone a w (hfull listed w hph (fun i hi=>zbx hf hl hr i hi)) hs fun i o hi=>(hT i o hi (zbx hf hl hr i (Array.getElem?_eq_some_iff.1 hi).1)).1,fun i hi=>?_⟩
  rw [mem_ready] at hi
  obtain ⟨h0,o,ho,hdeps⟩:=hi
  have hlt:=(Array.getElem?_eq_some_iff.1 ho).1
  have hyes:∀k ok,ops[k]?=some ok→listed.getD k false=true→listed.getD k true=true:=by
   intro k ok hk this
   have hlt2:=(Array.getElem?_eq_some_iff.1 hk).1
   rw [Array.getD_eq_getD_getElem?] at this ⊢
   have hb2:k<listed.size:=by omega
   simpa [hb2] using this
  have hdv:∀e∈o.after,Region.binds .any e=true→∀oj,ops[e.on]?=some oj→zbe a oj=V e.on:=fun e he hb oj hoj=>(hT e.on oj hoj (hyes _ _ hoj (hdeps e he hb))).1
  have hkeep:∀j,i≠j→(listed.setIfInBounds i true).getD j true=listed.getD j true:=by
   intro j hij
   rw [Array.getD_eq_getD_getElem?,Array.getElem?_setIfInBounds,if_neg hij,←Array.getD_eq_getD_getElem?]
  have hself:(listed.setIfInBounds i true).getD i true=true:=by
   rw [Array.getD_eq_getD_getElem?,Array.getElem?_setIfInBounds]
   simp [show i<listed.size by omega]
  have next:∀v w',told o a v=V i→(∃k,k≤m∧I k w'∧∀j,j<m→(listed.setIfInBounds i true).getD (q j) true=decide (j<k))→wpAny P .any ops Q fuel (listed.setIfInBounds i true) (a.put o.dst v) w':=by
   intro v w' hv hph2
   have hback:∀j,i≠j→(listed.setIfInBounds i true).getD j true=true→listed.getD j true=true:=fun j hij hjl=>by rw [hkeep j hij] at hjl;exact hjl
   have hon:∀k,listed.getD k false=true→(listed.setIfInBounds i true).getD k false=true:=by
    intro k hk
    rw [Array.getD_eq_getD_getElem?] at hk ⊢
    rw [Array.getElem?_setIfInBounds]
    by_cases hik:i=k
    · simp [hik,show k<listed.size by omega]
    rw [if_neg hik];exact hk
   have hval:∀j oj,ops[j]?=some oj→i≠j→listed.getD j true=true→zbe (a.put o.dst v) oj=zbe a oj:=by
    intro j oj hj hij hjl
    refine zex hj ho (fun d hd hp=>?_)
    obtain ⟨e,he,hb,hon2⟩:=zcj hap hj ho (fun h=>hij h.symm) hd hp
    have:=(hT j oj hj hjl).2 e he hb
    rw [hon2] at this
    have h3:=hyes i o ho this
    rw [h3] at h0
    cases h0
   refine ih _ _ _ (by rw [Array.size_setIfInBounds];exact hl) ?_ hph2 (zc2 ho hs) ?_
   · rw [Array.toList_setIfInBounds,List.countP_set (by rw [Array.length_toList];omega)]
     have hf0:listed.toList[i]'(by rw [Array.length_toList];omega)=false:=by
      rw [Array.getD_eq_getD_getElem?] at h0
      simpa [show i<listed.size by omega] using h0
     rw [hf0]
     show listed.toList.countP id - 0+1+fuel=ops.size
     omega
   intro j oj hj hjl
   by_cases hij:i=j
   · subst hij
     rw [ho] at hj
     obtain rfl:=Option.some.inj hj
     rw [zbm (by rw [hs.size];exact hsz) ho]
     exact ⟨hv,fun e he hb=>hon _ (hdeps e he hb)⟩
   have hjl2:=hback j hij hjl
   rw [hval j oj hj hij hjl2]
   obtain ⟨q1,q3⟩:=hT j oj hj hjl2
   exact ⟨q1,fun e he hb=>hon _ (q3 e he hb)⟩
  obtain ⟨k,hk,hI,hj⟩:=hph
  by_cases hq:∃j,j<m∧i=q j
  · obtain ⟨j,hjm,rfl⟩:=hq
    have hjk:k≤j:=by
     have h1:=hj j hjm
     rw [h0] at h1
     have:=h1.symm
     simp at this
     exact this
    have hkj:j≤k:=by
     cases j with
     |zero=>omega
     |succ j=>
      obtain ⟨e,he,hb2,hon2⟩:=hwait j hjm o ho
      have h3:=hdeps e he hb2
      rw [hon2] at h3
      have h4:=hyes (q j) _ (Array.getElem?_eq_getElem (hqs j (by omega))) h3
      rw [hj j (by omega)] at h4
      simp at h4
      omega
    obtain rfl:j=k:=by omega
    obtain ⟨hwant,step⟩:=hA j hjm o ho a w hI hs hdv
    unfold wpOp
    simp only [ho]
    rw [if_pos hwant]
    left
    refine Oper.wp_mono (fun a' w' h'=>?_) step
    obtain ⟨v,rfl,h1,h2⟩:=h'
    refine next v w' h2 ⟨j+1,hjm,h1,fun z hz=>?_⟩
    by_cases e:z=j
    · subst e;rw [hself];simp
    rw [hkeep (q z) (fun h=>e (hinj j z hjm hz h).symm),hj z hz]
    simp only [decide_eq_decide]
    omega
  obtain ⟨hwant,v,hr,hv⟩:=hop i o ho (fun j hjm e=>hq ⟨j,hjm,e⟩) a w ⟨k,hk,hI⟩ hs hdv
  unfold wpOp
  simp only [ho]
  rw [if_pos hwant]
  left
  unfold Oper.wp
  rw [hr]
  refine next v w hv ⟨k,hk,hI,fun z hz=>?_⟩
  rw [hkeep (q z) (fun h=>hq ⟨z,hz,h⟩)]
  exact hj z hz
theorem zbj (V:Nat→Value) (I:Nat→World→Prop) (q:Nat→Nat) (m:Nat) {id:Nat} {a:Act} {w:World} (hm:P.follows .mixedOrders=true)
 (hap:zck ops=true) (hf:zbr ops=true) (hsz:zb3 ops a.tmps.size=true) (hinj:∀j k,j<m→k<m→q j=q k→j=k) (hqs:∀j,j<m→q j<ops.size)
 (hwait:∀j,j+1<m→∀oB,ops[q (j+1)]?=some oB→∃e∈oB.after,Region.binds .any e=true∧e.on=q j)
 (h0:I 0 { w with drawn:=w.drawn+1 })
 (hop:∀i o,ops[i]?=some o→(∀j,j<m→i≠q j)→ReadOkC P ops V (fun w=>∃k,k≤m∧I k w) a i o)
 (hA:∀k,k<m→∀o,ops[q k]?=some o→CallOkC P ops Q V (I k) (I (k+1)) a (q k) o)
 (hdone:∀a' w',I m w'→Same ops a a'→(∀i o,ops[i]?=some o→zbe a' o=V i)→Q .normal a' w'):(Code.region id ops true).wp P Q a w:=
 wp_region_any hm (wpAny_calls (a0:=a) hap hf hsz hinj hqs hwait hop hA hdone ops.size (Array.replicate ops.size false) a _ (by simp) (by simp)
  ⟨0,Nat.zero_le _,h0,fun j hj=>by rw [Array.getD_eq_getD_getElem?];simp [hqs j hj]⟩ ⟨rfl,rfl,fun _ _=>rfl⟩ (fun i o hi hl=>by
  have:=(Array.getElem?_eq_some_iff.1 hi).1
  rw [Array.getD_eq_getD_getElem?] at hl
  simp [this] at hl))
end
section
variable {P:Program} {ops:Array Oper} {Q:Exit→Act→World→Prop} {T:Nat→Value→World→Prop} {R:World→World→Prop} {I0 I1:World→Prop} {qA:Nat} {a0:Act}
def ReadOkW (P:Program) (ops:Array Oper) (Q:Exit→Act→World→Prop) (T:Nat→Value→World→Prop) (R:World→World→Prop) (I0 I1:World→Prop) (a0:Act) (i:Nat) (o:Oper):Prop:=
 ∀(a:Act) (w:World),I0 w∨I1 w→Same ops a0 a→(∀e∈o.after,Region.binds .any e=true→∀oj,ops[e.on]?=some oj→T e.on (zbe a oj) w)→
  Region.wanted o (yielded ops a.tmps)=true∧o.wp P a w (fun a' w'=>∃v,a'=a.put o.dst v∧R w w'∧(I0 w→I0 w')∧(I1 w→I1 w')∧T i (told o a v) w') Q
def CallOkW (P:Program) (ops:Array Oper) (Q:Exit→Act→World→Prop) (T:Nat→Value→World→Prop) (R:World→World→Prop) (I J:World→Prop) (a0:Act) (i:Nat) (o:Oper):Prop:=
 ∀(a:Act) (w:World),I w→Same ops a0 a→(∀e∈o.after,Region.binds .any e=true→∀oj,ops[e.on]?=some oj→T e.on (zbe a oj) w)→
  Region.wanted o (yielded ops a.tmps)=true∧o.wp P a w (fun a' w'=>∃v,a'=a.put o.dst v∧J w'∧R w w'∧T i (told o a v) w') Q
theorem wpAny_oneW (hap:zck ops=true) (hf:zbr ops=true) (hsz:zb3 ops a0.tmps.size=true) (hAs:qA<ops.size)
 (hst:∀i v w w',T i v w→R w w'→T i v w')
 (hop:∀i o,ops[i]?=some o→i≠qA→ReadOkW P ops Q T R I0 I1 a0 i o)
 (hA:∀o,ops[qA]?=some o→CallOkW P ops Q T R I0 I1 a0 qA o)
 (hdone:∀a w,I1 w→Same ops a0 a→(∀i o,ops[i]?=some o→T i (zbe a o) w)→Q .normal a w):
 ∀(fuel:Nat) (listed:Array Bool) (a:Act) (w:World),listed.size=ops.size→listed.toList.countP id+fuel=ops.size→
  ((listed.getD qA true=true→I1 w)∧(listed.getD qA true=false→I0 w))→Same ops a0 a→
  (∀i o,ops[i]?=some o→listed.getD i true=true→T i (zbe a o) w∧∀e∈o.after,Region.binds .any e=true→listed.getD e.on false=true)→wpAny P .any ops Q fuel listed a w:=by
 intro fuel
 induction fuel with
 |zero=>
  intro listed a w hl hc hph hs hT
  have hall2:∀i,i<ops.size→listed.getD i true=true:=by
   intro i hi
   have:=List.countP_eq_length.1 (show listed.toList.countP id=listed.toList.length by rw [Array.length_toList];omega) listed[i] (by simp)
   rw [Array.getD_eq_getD_getElem?]
   simpa [show i<listed.size by omega] using this
  refine ⟨?_,hdone a w (hph.1 (hall2 qA hAs)) hs fun i o hi=>(hT i o hi (hall2 i (Array.getElem?_eq_some_iff.1 hi).1)).1⟩
  cases hr:Region.ready .any ops listed with
  |nil=>rfl
  |cons j t=>
   exfalso
   have hj:j∈Region.ready .any ops listed:=by rw [hr];simp
   rw [mem_ready] at hj
   obtain ⟨h0,o,ho,_⟩:=hj
   rw [hall2 j (Array.getElem?_eq_some_iff.1 ho).1] at h0
   cases h0
 |succ fuel ih=>
  intro listed a w hl hc hph hs hT
  refine ⟨fun hr=>hdone a w (hph.1 (zbx hf hl hr qA hAs)) hs fun i o hi=>(hT i o hi (zbx hf hl hr i (Array.getElem?_eq_some_iff.1 hi).1)).1,fun i hi=>?_⟩
  rw [mem_ready] at hi
  obtain ⟨h0,o,ho,hdeps⟩:=hi
  have hlt:=(Array.getElem?_eq_some_iff.1 ho).1
  have hyes:∀k ok,ops[k]?=some ok→listed.getD k false=true→listed.getD k true=true:=by
   intro k ok hk this
   have hlt2:=(Array.getElem?_eq_some_iff.1 hk).1
   rw [Array.getD_eq_getD_getElem?] at this ⊢
   have hb2:k<listed.size:=by omega
   simpa [hb2] using this
  have hany:I0 w∨I1 w:=by
   cases ha:listed.getD qA true with
   |true=>exact .inr (hph.1 ha)
   |false=>exact .inl (hph.2 ha)
  have hdv:∀e∈o.after,Region.binds .any e=true→∀oj,ops[e.on]?=some oj→T e.on (zbe a oj) w:=fun e he hb oj hoj=>(hT e.on oj hoj (hyes _ _ hoj (hdeps e he hb))).1
  have hkeep:∀j,i≠j→(listed.setIfInBounds i true).getD j true=listed.getD j true:=by
   intro j hij
   rw [Array.getD_eq_getD_getElem?,Array.getElem?_setIfInBounds,if_neg hij,←Array.getD_eq_getD_getElem?]
  have hself:(listed.setIfInBounds i true).getD i true=true:=by
   rw [Array.getD_eq_getD_getElem?,Array.getElem?_setIfInBounds]
   simp [show i<listed.size by omega]
  have next:∀v w',R w w'→T i (told o a v) w'→(((listed.setIfInBounds i true).getD qA true=true→I1 w')∧((listed.setIfInBounds i true).getD qA true=false→I0 w'))→wpAny P .any ops Q fuel (listed.setIfInBounds i true) (a.put o.dst v) w':=by
   intro v w' hR hv hph2
   have hback:∀j,i≠j→(listed.setIfInBounds i true).getD j true=true→listed.getD j true=true:=fun j hij hjl=>by rw [hkeep j hij] at hjl;exact hjl
   have hon:∀k,listed.getD k false=true→(listed.setIfInBounds i true).getD k false=true:=by
    intro k hk
    rw [Array.getD_eq_getD_getElem?] at hk ⊢
    rw [Array.getElem?_setIfInBounds]
    by_cases hik:i=k
    · simp [hik,show k<listed.size by omega]
    rw [if_neg hik];exact hk
   have hval:∀j oj,ops[j]?=some oj→i≠j→listed.getD j true=true→zbe (a.put o.dst v) oj=zbe a oj:=by
    intro j oj hj hij hjl
    refine zex hj ho (fun d hd hp=>?_)
    obtain ⟨e,he,hb,hon2⟩:=zcj hap hj ho (fun h=>hij h.symm) hd hp
    have:=(hT j oj hj hjl).2 e he hb
    rw [hon2] at this
    have h3:=hyes i o ho this
    rw [h3] at h0
    cases h0
   refine ih _ _ _ (by rw [Array.size_setIfInBounds];exact hl) ?_ hph2 (zc2 ho hs) ?_
   · rw [Array.toList_setIfInBounds,List.countP_set (by rw [Array.length_toList];omega)]
     have hf0:listed.toList[i]'(by rw [Array.length_toList];omega)=false:=by
      rw [Array.getD_eq_getD_getElem?] at h0
      simpa [show i<listed.size by omega] using h0
     rw [hf0]
     show listed.toList.countP id - 0+1+fuel=ops.size
     omega
   intro j oj hj hjl
   by_cases hij:i=j
   · subst hij
     rw [ho] at hj
     obtain rfl:=Option.some.inj hj
     rw [zbm (by rw [hs.size];exact hsz) ho]
     exact ⟨hv,fun e he hb=>hon _ (hdeps e he hb)⟩
   have hjl2:=hback j hij hjl
   rw [hval j oj hj hij hjl2]
   obtain ⟨q1,q3⟩:=hT j oj hj hjl2
   exact ⟨hst _ _ _ _ q1 hR,fun e he hb=>hon _ (q3 e he hb)⟩
  by_cases hiA:i=qA
  · subst hiA
    obtain ⟨hwant,step⟩:=hA o ho a w (hph.2 h0) hs hdv
    unfold wpOp
    simp only [ho]
    rw [if_pos hwant]
    left
    refine Oper.wp_mono (fun a' w' h'=>?_) step
    obtain ⟨v,rfl,h1,hR,h2⟩:=h'
    refine next v w' hR h2 ⟨fun _=>h1,fun h=>?_⟩
    rw [hself] at h;cases h
  obtain ⟨hwant,step⟩:=hop i o ho hiA a w hany hs hdv
  unfold wpOp
  simp only [ho]
  rw [if_pos hwant]
  left
  refine Oper.wp_mono (fun a' w' h'=>?_) step
  obtain ⟨v,rfl,hR,i0,i1,hv⟩:=h'
  refine next v w' hR hv ?_
  rw [hkeep qA hiA]
  exact ⟨fun h=>i1 (hph.1 h),fun h=>i0 (hph.2 h)⟩
theorem zfg (T:Nat→Value→World→Prop) (R:World→World→Prop) (I0 I1:World→Prop) (qA:Nat) {id:Nat} {a:Act} {w:World} (hm:P.follows .mixedOrders=true)
 (hap:zck ops=true) (hf:zbr ops=true) (hsz:zb3 ops a.tmps.size=true) (hAs:qA<ops.size)
 (h0:I0 { w with drawn:=w.drawn+1 })
 (hst:∀i v w w',T i v w→R w w'→T i v w')
 (hop:∀i o,ops[i]?=some o→i≠qA→ReadOkW P ops Q T R I0 I1 a i o)
 (hA:∀o,ops[qA]?=some o→CallOkW P ops Q T R I0 I1 a qA o)
 (hdone:∀a' w',I1 w'→Same ops a a'→(∀i o,ops[i]?=some o→T i (zbe a' o) w')→Q .normal a' w'):(Code.region id ops true).wp P Q a w:=
 wp_region_any hm (wpAny_oneW (a0:=a) hap hf hsz hAs hst hop hA hdone ops.size (Array.replicate ops.size false) a _ (by simp) (by simp)
  ⟨fun h=>by rw [Array.getD_eq_getD_getElem?] at h;simp [hAs] at h,fun _=>h0⟩ ⟨rfl,rfl,fun _ _=>rfl⟩ (fun i o hi hl=>by
  have:=(Array.getElem?_eq_some_iff.1 hi).1
  rw [Array.getD_eq_getD_getElem?] at hl
  simp [this] at hl))
end
end Go.Proofs.YtlppibigceeimaaGreatDoor
