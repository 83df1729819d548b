import Derived.WalkKit
import Derived.Orders
set_option linter.unusedSimpArgs false
set_option linter.unusedVariables false
set_option maxHeartbeats 40000000
set_option maxRecDepth 100000
namespace Go.Proofs.YtlppibigceeimaaGreatDoor
open Go.RowKit
section
variable {P:Program} {ops:Array Oper} {Q:Exit→Act→World→Prop} {Later:World→World→Prop} {T:Nat→Value→World→Prop} {a0:Act} {w0:World}
def zcc (a:Act) (o:Oper):Value:=
 match o.dst with
 |some d=>a.tmps.getD d undef
 |none=>undef
def dsts (ops:Array Oper):List Tmp:=ops.toList.filterMap (fun o=>o.dst)
structure Same (ops:Array Oper) (a0 a:Act):Prop where
 size:a.tmps.size=a0.tmps.size
 defers:a.defers=a0.defers
 slot:∀t,(dsts ops).contains t=false→a.tmps.getD t undef=a0.tmps.getD t undef
def zf0 (P:Program) (ops:Array Oper) (Q:Exit→Act→World→Prop) (Later:World→World→Prop) (T:Nat→Value→World→Prop) (a0:Act) (w0:World) (i:Nat) (o:Oper):Prop:=
 ∀(a:Act) (w:World),Later w0 w→Same ops a0 a→
  (∀e∈o.after,Region.binds .any e=true→∀oj,ops[e.on]?=some oj→T e.on (zcc a oj) w)→
  if Region.wanted o (yielded ops a.tmps)=true then o.wp P a w (fun a' w'=>∃v,a'=a.put o.dst v∧Later w w'∧T i v w') Q else T i undef w
theorem zad (a:Act) (d t:Tmp) (v:Value) (h:t≠d):(a.put (some d) v).tmps.getD t undef=a.tmps.getD t undef:=by
 have:(a.put (some d) v).tmps=a.tmps.setIfInBounds d v:=rfl
 rw [this,Array.getD_eq_getD_getElem?,Array.getD_eq_getD_getElem?,Array.getElem?_setIfInBounds,if_neg (fun e=>h e.symm)]
theorem za7 (a:Act) (d:Tmp) (v:Value) (h:d<a.tmps.size):(a.put (some d) v).tmps.getD d undef=v:=by
 have:(a.put (some d) v).tmps=a.tmps.setIfInBounds d v:=rfl
 rw [this,Array.getD_eq_getD_getElem?,Array.getElem?_setIfInBounds]
 simp [h]
theorem zc2 {a:Act} {i:Nat} {o:Oper} {v:Value} (hi:ops[i]?=some o) (h:Same ops a0 a):Same ops a0 (a.put o.dst v):=by
 cases hd:o.dst with
 |none=>exact h
 |some d=>
  refine ⟨?_,h.defers,fun t ht=>?_⟩
  · have:(a.put (some d) v).tmps=a.tmps.setIfInBounds d v:=rfl
    rw [this,Array.size_setIfInBounds];exact h.size
  rw [zad a d t v ?_]
  · exact h.slot t ht
  intro e
  subst e
  have:t∈dsts ops:=List.mem_filterMap.2 ⟨o,by
   rw [Array.mem_toList_iff]
   exact Array.mem_of_getElem? hi,hd⟩
  simp [this] at ht
def zb9 (ops:Array Oper):Bool:=(List.range ops.size).all fun i=>(List.range ops.size).all fun j=>i==j || match ops[i]?,ops[j]? with
 |some x,some y=>x.dst.isNone || x.dst !=y.dst
 |_,_=>true
theorem zgo (h:zb9 ops=true) {i j:Nat} {x y:Oper} (hi:ops[i]?=some x) (hj:ops[j]?=some y) (hij:i≠j) {d:Tmp} (hd:x.dst=some d):y.dst≠some d:=by
 have h1:=(Array.getElem?_eq_some_iff.1 hi).1
 have h2:=(Array.getElem?_eq_some_iff.1 hj).1
 have:=List.all_eq_true.1 (List.all_eq_true.1 h i (List.mem_range.2 h1)) j (List.mem_range.2 h2)
 simp only [hi,hj,hd] at this
 simp [hij] at this
 intro e
 exact this e.symm
def zbr (ops:Array Oper):Bool:=(List.range ops.size).all fun i=>match ops[i]? with
 |some o=>o.after.all fun e=>!Region.binds .any e || decide (e.on<i)
 |none=>true
theorem forward_spec (h:zbr ops=true) {i:Nat} {o:Oper} (hi:ops[i]?=some o):∀e∈o.after,Region.binds .any e=true→e.on<i:=by
 intro e he hb
 have h1:=(Array.getElem?_eq_some_iff.1 hi).1
 have:=List.all_eq_true.1 h i (List.mem_range.2 h1)
 simp only [hi] at this
 have:=Array.all_eq_true_iff_forall_mem.1 this e he
 simpa [hb] using this
def zb3 (ops:Array Oper) (n:Nat):Bool:=ops.all fun o=>match o.dst with
 |some d=>decide (d<n)
 |none=>true
theorem zeu {n:Nat} (h:zb3 ops n=true) {i:Nat} {o:Oper} (hi:ops[i]?=some o) {d:Tmp} (hd:o.dst=some d):d<n:=by
 have:=Array.all_eq_true_iff_forall_mem.1 h o (Array.mem_of_getElem? hi)
 simpa [hd] using this
theorem zew {a:Act} {i j:Nat} {x y:Oper} {v:Value} (hap:zb9 ops=true) (hi:ops[i]?=some x) (hj:ops[j]?=some y) (hij:i≠j):zcc (a.put x.dst v) y=zcc a y:=by
 unfold zcc
 cases hy:y.dst with
 |none=>rfl
 |some d=>
  cases hx:x.dst with
  |none=>rfl
  |some c=>
   simp only
   refine zad a c d v (fun e=>?_)
   subst e
   exact zgo hap hi hj hij hx hy
theorem zcb {a:Act} {i:Nat} {x:Oper} {v:Value} (hsz:zb3 ops a.tmps.size=true) (hi:ops[i]?=some x) (hx:x.dst.isSome=true):zcc (a.put x.dst v) x=v:=by
 unfold zcc
 obtain ⟨d,hd⟩:=Option.isSome_iff_exists.1 hx
 rw [hd]
 exact za7 a d v (zeu hsz hi hd)
theorem zbx (hf:zbr ops=true) {listed:Array Bool} (hl:listed.size=ops.size) (h:Region.ready .any ops listed=[]):∀i,i<ops.size→listed.getD i true=true:=by
 intro i
 induction i using Nat.strongRecOn with
 |ind i ih=>
  intro hi
  cases hc:listed.getD i true with
  |true=>rfl
  |false=>
   exfalso
   have:i∈Region.ready .any ops listed:=by
    rw [mem_ready]
    refine ⟨hc,ops[i],by simp [hi],fun e he hb=>?_⟩
    have hlt:=forward_spec hf (i:=i) (o:=ops[i]) (by simp [hi]) e he hb
    have:=ih e.on hlt (by omega)
    rw [Array.getD_eq_getD_getElem?] at this ⊢
    have hb2:e.on<listed.size:=by omega
    simpa [hb2] using this
   rw [h] at this
   cases this
theorem wpAny_inv (hap:zb9 ops=true) (hf:zbr ops=true) (hsz:zb3 ops a0.tmps.size=true) (hall:(ops.all fun o=>o.dst.isSome)=true)
 (hrf:∀a,Later a a) (htr:∀a b c,Later a b→Later b c→Later a c) (hst:∀i v w w',T i v w→Later w w'→T i v w')
 (hop:∀i o,ops[i]?=some o→zf0 P ops Q Later T a0 w0 i o)
 (hdone:∀a w,Later w0 w→Same ops a0 a→(∀i o,ops[i]?=some o→T i (zcc a o) w)→Q .normal a w):
 ∀(fuel:Nat) (listed:Array Bool) (a:Act) (w:World),listed.size=ops.size→listed.toList.countP id+fuel=ops.size→Later w0 w→Same ops a0 a→
  (∀i o,ops[i]?=some o→listed.getD i true=true→T i (zcc a o) w)→wpAny P .any ops Q fuel listed a w:=by
 intro fuel
 induction fuel with
 |zero=>
  intro listed a w hl hc hw hs hT
  have hall2:∀i,i<ops.size→listed.getD i true=true:=by
   intro i hi
   have:=List.countP_eq_length.1 (show listed.toList.countP id=listed.toList.length by rw [Array.length_toList];omega) listed[i] (by simp)
   rw [Array.getD_eq_getD_getElem?]
   simpa [show i<listed.size by omega] using this
  refine ⟨?_,hdone a w hw hs fun i o hi=>hT i o hi (hall2 i (Array.getElem?_eq_some_iff.1 hi).1)⟩
  cases hr:Region.ready .any ops listed with
  |nil=>rfl
  |cons j t=>
   exfalso
   have hj:j∈Region.ready .any ops listed:=by rw [hr];simp
   rw [mem_ready] at hj
   obtain ⟨h0,o,ho,_⟩:=hj
   rw [hall2 j (Array.getElem?_eq_some_iff.1 ho).1] at h0
   cases h0
 |succ fuel ih=>
  intro listed a w hl hc hw hs hT
  refine ⟨fun hr=>hdone a w hw hs fun i o hi=>hT i o hi (zbx hf hl hr i (Array.getElem?_eq_some_iff.1 hi).1),fun i hi=>?_⟩
  rw [mem_ready] at hi
  obtain ⟨h0,o,ho,hdeps⟩:=hi
  have hlt:=(Array.getElem?_eq_some_iff.1 ho).1
  have step:=hop i o ho a w hw hs (fun e he hb oj hoj=>hT e.on oj hoj (by
   have:=hdeps e he hb
   have hlt2:=(Array.getElem?_eq_some_iff.1 hoj).1
   rw [Array.getD_eq_getD_getElem?] at this ⊢
   have hb2:e.on<listed.size:=by omega
   simpa [hb2] using this))
  have hsome:o.dst.isSome=true:=Array.all_eq_true_iff_forall_mem.1 hall o (Array.mem_of_getElem? ho)
  have next:∀v w',Later w w'→T i v w'→wpAny P .any ops Q fuel (listed.setIfInBounds i true) (a.put o.dst v) w':=by
   intro v w' hl2 hT2
   refine ih _ _ _ (by rw [Array.size_setIfInBounds];exact hl) ?_ (htr _ _ _ hw hl2) (zc2 ho hs) ?_
   · rw [Array.toList_setIfInBounds,List.countP_set (by rw [Array.length_toList];omega)]
     have hf0:listed.toList[i]'(by rw [Array.length_toList];omega)=false:=by
      rw [Array.getD_eq_getD_getElem?] at h0
      simpa [show i<listed.size by omega] using h0
     rw [hf0]
     show listed.toList.countP id - 0+1+fuel=ops.size
     omega
   intro j oj hj hjl
   by_cases hij:i=j
   · subst hij
     rw [ho] at hj
     obtain rfl:=Option.some.inj hj
     rw [zcb (by rw [hs.size];exact hsz) ho hsome]
     exact hT2
   rw [zew hap ho hj hij]
   refine hst _ _ _ _ (hT j oj hj ?_) hl2
   rw [Array.getD_eq_getD_getElem?,Array.getElem?_setIfInBounds,if_neg hij] at hjl
   rw [Array.getD_eq_getD_getElem?]
   exact hjl
  unfold wpOp
  simp only [ho]
  split
  · rename_i hwant
    rw [if_pos hwant] at step
    left
    refine Oper.wp_mono (fun a' w' h'=>?_) step
    obtain ⟨v,rfl,h1,h2⟩:=h'
    exact next v w' h1 h2
  rename_i hwant
  rw [if_neg hwant] at step
  exact next undef w (hrf w) step
theorem zat {i:Nat} {o:Oper} {a:Act} {w:World} (hw:Region.wanted o (yielded ops a.tmps)=true) (h:o.wp P a w (fun a' w'=>∃v,a'=a.put o.dst v∧Later w w'∧T i v w') Q):
 if Region.wanted o (yielded ops a.tmps)=true then o.wp P a w (fun a' w'=>∃v,a'=a.put o.dst v∧Later w w'∧T i v w') Q else T i undef w:=by rw [if_pos hw];exact h
theorem step_no {i:Nat} {o:Oper} {a:Act} {w:World} (hw:Region.wanted o (yielded ops a.tmps)=false) (h:T i undef w):
 if Region.wanted o (yielded ops a.tmps)=true then o.wp P a w (fun a' w'=>∃v,a'=a.put o.dst v∧Later w w'∧T i v w') Q else T i undef w:=by rw [if_neg (by rw [hw];simp)];exact h
theorem getD_bool {t:Array Value} {d:Nat} {b:Bool} (h:t.getD d undef=.bool b):t[d]?=some (.bool b):=by
 rw [Array.getD_eq_getD_getElem?] at h
 cases hc:t[d]? with
 |none=>rw [hc] at h;simp [undef] at h
 |some v=>rw [hc] at h;simpa using h
theorem zas {o oj:Oper} {a:Act} {j:Nat} {d:Tmp} {b:Bool} (hg:o.guard=some (j,b)) (hj:ops[j]?=some oj) (hd:oj.dst=some d) (h:a.tmps.getD d undef=.bool b):Region.wanted o (yielded ops a.tmps)=true:=by
 simp [Region.wanted,hg,yielded,hj,hd,getD_bool h]
theorem wanted_no {o oj:Oper} {a:Act} {j:Nat} {d:Tmp} {b c:Bool} (hg:o.guard=some (j,b)) (hj:ops[j]?=some oj) (hd:oj.dst=some d) (h:a.tmps.getD d undef=.bool c) (hc:(c==b)=false):Region.wanted o (yielded ops a.tmps)=false:=by
 simp [Region.wanted,hg,yielded,hj,hd,getD_bool h]
 simpa using hc
theorem zbu {i:Nat} {o:Oper} {a:Act} {w:World} (hrf:∀a,Later a a) (v:Value) (h:(execOp a.eval o).run P w=.ok (.value v) w) (hT:T i v w):o.wp P a w (fun a' w'=>∃v,a'=a.put o.dst v∧Later w w'∧T i v w') Q:=by
 unfold Oper.wp
 rw [h]
 exact ⟨v,rfl,hrf w,hT⟩
theorem zbb {i:Nat} {o:Oper} {a:Act} {w:World} {f:FuncId} {args:Array Value} (h:(execOp a.eval o).run P w=.ok (.enter f args) w) (hc:Calls P f args w fun e w'=>∃v,e=.returned v∧Later w w'∧T i v w'):o.wp P a w (fun a' w'=>∃v,a'=a.put o.dst v∧Later w w'∧T i v w') Q:=by
 unfold Oper.wp
 rw [h]
 refine Calls.mono hc ?_
 rintro e w' ⟨v,rfl,hl,ht⟩
 exact ⟨v,rfl,hl,ht⟩
theorem zay (Later:World→World→Prop) (T:Nat→Value→World→Prop) {id:Nat} {a:Act} {w:World} (hm:P.follows .mixedOrders=true)
 (hap:zb9 ops=true) (hf:zbr ops=true) (hsz:zb3 ops a.tmps.size=true) (hall:(ops.all fun o=>o.dst.isSome)=true)
 (hrf:∀a,Later a a) (htr:∀a b c,Later a b→Later b c→Later a c) (hst:∀i v w w',T i v w→Later w w'→T i v w')
 (hdr:Later w { w with drawn:=w.drawn+1 })
 (hop:∀i o,ops[i]?=some o→zf0 P ops Q Later T a w i o)
 (hdone:∀a' w',Later w w'→Same ops a a'→(∀i o,ops[i]?=some o→T i (zcc a' o) w')→Q .normal a' w'):(Code.region id ops true).wp P Q a w:=
 wp_region_any hm (wpAny_inv (a0:=a) (w0:=w) hap hf hsz hall hrf htr hst hop hdone ops.size (Array.replicate ops.size false) a _ (by simp) (by simp) hdr ⟨rfl,rfl,fun _ _=>rfl⟩ (fun i o hi hl=>by
  have:=(Array.getElem?_eq_some_iff.1 hi).1
  rw [Array.getD_eq_getD_getElem?] at hl
  simp [this] at hl))
end
section
variable {P:Program} {ops:Array Oper} {Q:Exit→Act→World→Prop} {Later:World→World→Prop} {T:Nat→Value→World→Prop} {a0:Act} {w0:World}
def zda (ops:Array Oper):Nat→Nat→Nat→Bool
 |0,_,_=>false
 |n+1,i,j=>match ops[i]? with
  |some o=>o.after.any fun e=>Region.binds .any e && (e.on==j || zda ops n e.on j)
  |none=>false
theorem zca {ops:Array Oper} {listed:Array Bool} (hcl:∀k o,ops[k]?=some o→listed.getD k true=true→∀e∈o.after,Region.binds .any e=true→∀oj,ops[e.on]?=some oj→listed.getD e.on true=true):
 ∀(n i:Nat) (o:Oper),ops[i]?=some o→(∀e∈o.after,Region.binds .any e=true→∀oj,ops[e.on]?=some oj→listed.getD e.on true=true)→∀j,j<ops.size→zda ops n i j=true→listed.getD j true=true
 |0,i,o,ho,hd,j,hj,h=>by cases h
 |n+1,i,o,ho,hd,j,hj,h=>by
  unfold zda at h
  rw [ho] at h
  obtain ⟨e,he,hb⟩:=Array.any_eq_true'.1 h
  simp only [Bool.and_eq_true,Bool.or_eq_true,beq_iff_eq] at hb
  obtain ⟨hb1,hb2⟩:=hb
  rcases hb2 with hb2|hb2
  · have hjs:ops[e.on]?=some (ops[j]'(by omega)):=by rw [hb2];simp [show j<ops.size by omega]
    have:=hd e he hb1 _ hjs
    rw [hb2] at this
    exact this
  cases hk:ops[e.on]? with
  |none=>
   cases n with
   |zero=>cases hb2
   |succ n=>unfold zda at hb2;rw [hk] at hb2;cases hb2
  |some ok=>exact zca hcl n e.on ok hk (hcl e.on ok hk (hd e he hb1 _ hk)) j hj hb2
def zeh (ops:Array Oper) (L:Nat):Bool:=decide (L+1=ops.size) && match ops[L]? with
 |some o=>o.guard.isNone && (List.range L).all fun j=>zda ops 12 L j
 |none=>false
def allBut (ops:Array Oper) (L:Nat):Bool:=(List.range L).all fun i=>match ops[i]? with
 |some o=>o.dst.isSome
 |none=>true
theorem wpAny_invL (L:Nat) (hap:zb9 ops=true) (hf:zbr ops=true) (hsz:zb3 ops a0.tmps.size=true) (hwt:zeh ops L=true) (hall:allBut ops L=true)
 (hrf:∀a,Later a a) (htr:∀a b c,Later a b→Later b c→Later a c) (hst:∀i v w w',T i v w→Later w w'→T i v w')
 (hop:∀i o,i<L→ops[i]?=some o→zf0 P ops Q Later T a0 w0 i o)
 (hlast:∀o a w,ops[L]?=some o→Later w0 w→Same ops a0 a→(∀i oi,i<L→ops[i]?=some oi→T i (zcc a oi) w)→o.wp P a w (fun a' w'=>Q .normal a' w') Q):
 ∀(fuel:Nat) (listed:Array Bool) (a:Act) (w:World),listed.size=ops.size→listed.toList.countP id+fuel=ops.size→listed.getD L true=false→(∀k o,ops[k]?=some o→listed.getD k true=true→∀e∈o.after,Region.binds .any e=true→∀oj,ops[e.on]?=some oj→listed.getD e.on true=true)→Later w0 w→Same ops a0 a→
  (∀i o,ops[i]?=some o→listed.getD i true=true→T i (zcc a o) w)→wpAny P .any ops Q fuel listed a w:=by
 simp only [zeh,Bool.and_eq_true,decide_eq_true_eq] at hwt
 obtain ⟨hLs,hwt⟩:=hwt
 intro fuel
 induction fuel with
 |zero=>
  intro listed a w hl hc hnot hcl hw hs hT
  exfalso
  have:=List.countP_eq_length.1 (show listed.toList.countP id=listed.toList.length by rw [Array.length_toList];omega) (listed[L]'(by omega)) (by simp)
  rw [Array.getD_eq_getD_getElem?] at hnot
  simp [show L<listed.size by omega] at hnot
  simp [hnot] at this
 |succ fuel ih=>
  intro listed a w hl hc hnot hcl hw hs hT
  refine ⟨fun hr=>?_,fun i hi=>?_⟩
  · exfalso
    have:=zbx hf hl hr L (by omega)
    rw [this] at hnot
    cases hnot
  rw [mem_ready] at hi
  obtain ⟨h0,o,ho,hdeps⟩:=hi
  have hlt:=(Array.getElem?_eq_some_iff.1 ho).1
  have hdone:∀e∈o.after,Region.binds .any e=true→∀oj,ops[e.on]?=some oj→listed.getD e.on true=true:=by
   intro e he hb oj hoj
   have:=hdeps e he hb
   have hlt2:=(Array.getElem?_eq_some_iff.1 hoj).1
   rw [Array.getD_eq_getD_getElem?] at this ⊢
   have hb2:e.on<listed.size:=by omega
   simpa [hb2] using this
  by_cases hiL:i=L
  · subst hiL
    rw [ho] at hwt
    simp only [Bool.and_eq_true] at hwt
    obtain ⟨hg,hwt⟩:=hwt
    have hprev:∀j,j<i→listed.getD j true=true:=by
     intro j hj
     exact zca hcl 12 i o ho hdone j (by omega) (List.all_eq_true.1 hwt j (List.mem_range.2 hj))
    have step:=hlast o a w ho hw hs (fun j oj hj hoj=>hT j oj hoj (hprev j hj))
    have hcount:listed.toList.countP id=i:=by
     have h1:listed.toList=listed.toList.take i++[false]:=by
      have hlen:listed.toList.length=i+1:=by rw [Array.length_toList];omega
      rw [Array.getD_eq_getD_getElem?] at hnot
      simp [show i<listed.size by omega] at hnot
      apply List.ext_getElem?
      intro k
      rcases Nat.lt_trichotomy k i with h|h|h
      · rw [List.getElem?_append_left (by simp;omega)]
        simp [h]
      · subst h
        rw [List.getElem?_append_right (by simp;omega)]
        simp [show min k listed.size=k by omega,show k<listed.size by omega,hnot]
      rw [List.getElem?_eq_none (by omega),List.getElem?_eq_none (by simp;omega)]
     rw [h1,List.countP_append]
     have h2:(listed.toList.take i).countP id=(listed.toList.take i).length:=by
      rw [List.countP_eq_length]
      intro b hb
      obtain ⟨k,hk,rfl⟩:=List.getElem_of_mem hb
      simp only [List.length_take,Array.length_toList] at hk
      have:=hprev k (by omega)
      rw [Array.getD_eq_getD_getElem?] at this
      simpa [show k<listed.size by omega] using this
     rw [h2]
     simp
     omega
    have hfuel:fuel=0:=by omega
    subst hfuel
    have next:∀a' w',Q .normal a' w'→wpAny P .any ops Q 0 (listed.setIfInBounds i true) a' w':=by
     intro a' w' hq
     refine ⟨?_,hq⟩
     cases hr:Region.ready .any ops (listed.setIfInBounds i true) with
     |nil=>rfl
     |cons j t=>
      exfalso
      have hj:j∈Region.ready .any ops (listed.setIfInBounds i true):=by rw [hr];simp
      rw [mem_ready] at hj
      obtain ⟨hj0,oj,hoj,_⟩:=hj
      have hjs:=(Array.getElem?_eq_some_iff.1 hoj).1
      rw [Array.getD_eq_getD_getElem?,Array.getElem?_setIfInBounds] at hj0
      by_cases hij:i=j
      · simp [hij,show j<listed.size by omega] at hj0
      rw [if_neg hij] at hj0
      have:=hprev j (by omega)
      rw [Array.getD_eq_getD_getElem?] at this
      rw [this] at hj0
      cases hj0
    unfold wpOp
    simp only [ho]
    have hwant:Region.wanted o (yielded ops a.tmps)=true:=by
     cases hgg:o.guard with
     |none=>simp [Region.wanted,hgg]
     |some x=>rw [hgg] at hg;cases hg
    rw [if_pos hwant]
    left
    exact Oper.wp_mono (fun a' w' h'=>next a' w' h') step
  have hiL2:i<L:=by omega
  have step:=hop i o hiL2 ho a w hw hs (fun e he hb oj hoj=>hT e.on oj hoj (hdone e he hb oj hoj))
  have hsome:o.dst.isSome=true:=by
   have:=List.all_eq_true.1 hall i (List.mem_range.2 hiL2)
   rw [ho] at this
   exact this
  have next:∀v w',Later w w'→T i v w'→wpAny P .any ops Q fuel (listed.setIfInBounds i true) (a.put o.dst v) w':=by
   intro v w' hl2 hT2
   refine ih _ _ _ (by rw [Array.size_setIfInBounds];exact hl) ?_ ?_ ?_ (htr _ _ _ hw hl2) (zc2 ho hs) ?_
   · rw [Array.toList_setIfInBounds,List.countP_set (by rw [Array.length_toList];omega)]
     have hf0:listed.toList[i]'(by rw [Array.length_toList];omega)=false:=by
      rw [Array.getD_eq_getD_getElem?] at h0
      simpa [show i<listed.size by omega] using h0
     rw [hf0]
     show listed.toList.countP id - 0+1+fuel=ops.size
     omega
   · rw [Array.getD_eq_getD_getElem?,Array.getElem?_setIfInBounds,if_neg hiL,←Array.getD_eq_getD_getElem?]
     exact hnot
   · intro k ok hk hkl e he hb oj hoj
     rw [Array.getD_eq_getD_getElem?,Array.getElem?_setIfInBounds]
     by_cases hie:i=e.on
     · rw [if_pos hie]
       split <;> rfl
     rw [if_neg hie,←Array.getD_eq_getD_getElem?]
     by_cases hik:i=k
     · subst hik
       rw [ho] at hk
       obtain rfl:=Option.some.inj hk
       exact hdone e he hb oj hoj
     rw [Array.getD_eq_getD_getElem?,Array.getElem?_setIfInBounds,if_neg hik,←Array.getD_eq_getD_getElem?] at hkl
     exact hcl k ok hk hkl e he hb oj hoj
   intro j oj hj hjl
   by_cases hij:i=j
   · subst hij
     rw [ho] at hj
     obtain rfl:=Option.some.inj hj
     rw [zcb (by rw [hs.size];exact hsz) ho hsome]
     exact hT2
   rw [zew hap ho hj hij]
   refine hst _ _ _ _ (hT j oj hj ?_) hl2
   rw [Array.getD_eq_getD_getElem?,Array.getElem?_setIfInBounds,if_neg hij] at hjl
   rw [Array.getD_eq_getD_getElem?]
   exact hjl
  unfold wpOp
  simp only [ho]
  split
  · rename_i hwant
    rw [if_pos hwant] at step
    left
    refine Oper.wp_mono (fun a' w' h'=>?_) step
    obtain ⟨v,rfl,h1,h2⟩:=h'
    exact next v w' h1 h2
  rename_i hwant
  rw [if_neg hwant] at step
  exact next undef w (hrf w) step
theorem zbf (L:Nat) (Later:World→World→Prop) (T:Nat→Value→World→Prop) {id:Nat} {a:Act} {w:World} (hm:P.follows .mixedOrders=true)
 (hap:zb9 ops=true) (hf:zbr ops=true) (hsz:zb3 ops a.tmps.size=true) (hwt:zeh ops L=true) (hall:allBut ops L=true)
 (hrf:∀a,Later a a) (htr:∀a b c,Later a b→Later b c→Later a c) (hst:∀i v w w',T i v w→Later w w'→T i v w')
 (hdr:Later w { w with drawn:=w.drawn+1 })
 (hop:∀i o,i<L→ops[i]?=some o→zf0 P ops Q Later T a w i o)
 (hlast:∀o a' w',ops[L]?=some o→Later w w'→Same ops a a'→(∀i oi,i<L→ops[i]?=some oi→T i (zcc a' oi) w')→o.wp P a' w' (fun a'' w''=>Q .normal a'' w'') Q):(Code.region id ops true).wp P Q a w:=by
 have hLs:L+1=ops.size:=by
  simp only [zeh,Bool.and_eq_true,decide_eq_true_eq] at hwt
  exact hwt.1
 exact wp_region_any hm (wpAny_invL L (a0:=a) (w0:=w) hap hf hsz hwt hall hrf htr hst hop hlast ops.size (Array.replicate ops.size false) a _ (by simp) (by simp) (by rw [Array.getD_eq_getD_getElem?];simp [show L<ops.size by omega]) (fun k o hk hl=>by
  have:=(Array.getElem?_eq_some_iff.1 hk).1
  rw [Array.getD_eq_getD_getElem?] at hl
  simp [this] at hl) hdr ⟨rfl,rfl,fun _ _=>rfl⟩ (fun i o hi hl=>by
  have:=(Array.getElem?_eq_some_iff.1 hi).1
  rw [Array.getD_eq_getD_getElem?] at hl
  simp [this] at hl))
end
def zga (o:Oper):Option Tmp:=
 match o.dst with
 |some d=>some d
 |none=>match o.op with
  |.store _ (.tmp t) _=>some t
  |_=>none
def zbe (a:Act) (o:Oper):Value:=
 match zga o with
 |some d=>a.tmps.getD d undef
 |none=>undef
def told (o:Oper) (a:Act) (v:Value):Value:=
 match o.dst with
 |some _=>v
 |none=>zbe a o
def zgp (w w':World) (v:Value):Prop:=∀x,v.ownBlock=some x→w.heap.size≤x∧x<w'.heap.size
def Apart (v u:Value):Prop:=∀x,v.ownBlock=some x→u.ownBlock≠some x
theorem Apart.symm {v u:Value} (h:Apart v u):Apart u v:=fun x hx e=>h x e hx
def zck (ops:Array Oper):Bool:=(List.range ops.size).all fun i=>(List.range ops.size).all fun j=>i==j || match ops[i]?,ops[j]? with
 |some x,some y=>y.dst.isNone || zga x !=y.dst || (x.dst.isNone && x.after.any fun e=>Region.binds .any e && e.on==j)
 |_,_=>true
section
variable {P:Program} {ops:Array Oper} {Q:Exit→Act→World→Prop} {Later:World→World→Prop} {T:Nat→Value→World→Prop} {S:Nat→Bool} {a0:Act} {w0:World}
def StepOkB (P:Program) (ops:Array Oper) (Q:Exit→Act→World→Prop) (Later:World→World→Prop) (T:Nat→Value→World→Prop) (S:Nat→Bool) (a0:Act) (w0:World) (i:Nat) (o:Oper):Prop:=
 ∀(a:Act) (w:World),Later w0 w→Same ops a0 a→
  (∀e∈o.after,Region.binds .any e=true→∀oj,ops[e.on]?=some oj→T e.on (zbe a oj) w)→
  (∀e∈o.after,∀f∈o.after,Region.binds .any e=true→Region.binds .any f=true→e.on≠f.on→S e.on=true→S f.on=true→∀oj ok,ops[e.on]?=some oj→ops[f.on]?=some ok→Apart (zbe a oj) (zbe a ok))→
  if Region.wanted o (yielded ops a.tmps)=true then o.wp P a w (fun a' w'=>∃v,a'=a.put o.dst v∧Later w w'∧T i (told o a v) w'∧(S i=true→zgp w w' (told o a v))) Q else T i (told o a undef) w∧(S i=true→zgp w w (told o a undef))
theorem zcj (h:zck ops=true) {i j:Nat} {x y:Oper} (hi:ops[i]?=some x) (hj:ops[j]?=some y) (hij:i≠j) {d:Tmp} (hd:y.dst=some d) (hp:zga x=some d):∃e∈x.after,Region.binds .any e=true∧e.on=j:=by
 have h1:=(Array.getElem?_eq_some_iff.1 hi).1
 have h2:=(Array.getElem?_eq_some_iff.1 hj).1
 have:=List.all_eq_true.1 (List.all_eq_true.1 h i (List.mem_range.2 h1)) j (List.mem_range.2 h2)
 simp only [hi,hj,hd,hp] at this
 simp [hij] at this
 obtain ⟨_,k,hk,hb,he⟩:=this
 exact ⟨x.after[k],by simp,hb,he⟩
theorem zex {a:Act} {i j:Nat} {x y:Oper} {v:Value} (hi:ops[i]?=some x) (hj:ops[j]?=some y) (hne:∀d,y.dst=some d→zga x≠some d):zbe (a.put y.dst v) x=zbe a x:=by
 unfold zbe
 cases hx:zga x with
 |none=>rfl
 |some d=>
  cases hy:y.dst with
  |none=>rfl
  |some c=>
   simp only
   refine zad a c d v (fun e=>?_)
   subst e
   exact hne _ hy hx
theorem zbm {a:Act} {i:Nat} {x:Oper} {v:Value} (hsz:zb3 ops a.tmps.size=true) (hi:ops[i]?=some x):zbe (a.put x.dst v) x=told x a v:=by
 unfold told
 cases hd:x.dst with
 |none=>rfl
 |some d=>
  unfold zbe
  have:zga x=some d:=by unfold zga;rw [hd]
  rw [this]
  exact za7 a d v (zeu hsz hi hd)
theorem wpAny_invB (hap:zck ops=true) (hf:zbr ops=true) (hsz:zb3 ops a0.tmps.size=true)
 (hrf:∀a,Later a a) (htr:∀a b c,Later a b→Later b c→Later a c) (hst:∀i v w w',T i v w→Later w w'→T i v w') (hls:∀w w',Later w w'→w.heap.size≤w'.heap.size)
 (hop:∀i o,ops[i]?=some o→StepOkB P ops Q Later T S a0 w0 i o)
 (hdone:∀a w,Later w0 w→Same ops a0 a→(∀i o,ops[i]?=some o→T i (zbe a o) w)→Q .normal a w):
 ∀(fuel:Nat) (listed:Array Bool) (a:Act) (w:World),listed.size=ops.size→listed.toList.countP id+fuel=ops.size→Later w0 w→Same ops a0 a→
  (∀i o,ops[i]?=some o→listed.getD i true=true→T i (zbe a o) w∧(S i=true→∀x,(zbe a o).ownBlock=some x→x<w.heap.size)∧∀e∈o.after,Region.binds .any e=true→listed.getD e.on false=true)→
  (∀i j oi oj,ops[i]?=some oi→ops[j]?=some oj→listed.getD i true=true→listed.getD j true=true→i≠j→S i=true→S j=true→Apart (zbe a oi) (zbe a oj))→wpAny P .any ops Q fuel listed a w:=by
 intro fuel
 induction fuel with
 |zero=>
  intro listed a w hl hc hw hs hT hX
  have hall2:∀i,i<ops.size→listed.getD i true=true:=by
   intro i hi
   have:=List.countP_eq_length.1 (show listed.toList.countP id=listed.toList.length by rw [Array.length_toList];omega) listed[i] (by simp)
   rw [Array.getD_eq_getD_getElem?]
   simpa [show i<listed.size by omega] using this
  refine ⟨?_,hdone a w hw hs fun i o hi=>(hT i o hi (hall2 i (Array.getElem?_eq_some_iff.1 hi).1)).1⟩
  cases hr:Region.ready .any ops listed with
  |nil=>rfl
  |cons j t=>
   exfalso
   have hj:j∈Region.ready .any ops listed:=by rw [hr];simp
   rw [mem_ready] at hj
   obtain ⟨h0,o,ho,_⟩:=hj
   rw [hall2 j (Array.getElem?_eq_some_iff.1 ho).1] at h0
   cases h0
 |succ fuel ih=>
  intro listed a w hl hc hw hs hT hX
  refine ⟨fun hr=>hdone a w hw hs fun i o hi=>(hT i o hi (zbx hf hl hr i (Array.getElem?_eq_some_iff.1 hi).1)).1,fun i hi=>?_⟩
  rw [mem_ready] at hi
  obtain ⟨h0,o,ho,hdeps⟩:=hi
  have hlt:=(Array.getElem?_eq_some_iff.1 ho).1
  have hyes:∀k ok,ops[k]?=some ok→listed.getD k false=true→listed.getD k true=true:=by
   intro k ok hk this
   have hlt2:=(Array.getElem?_eq_some_iff.1 hk).1
   rw [Array.getD_eq_getD_getElem?] at this ⊢
   have hb2:k<listed.size:=by omega
   simpa [hb2] using this
  have step:=hop i o ho a w hw hs (fun e he hb oj hoj=>(hT e.on oj hoj (hyes _ _ hoj (hdeps e he hb))).1)
   (fun e he f hf2 hb hb2 hne hS1 hS2 oj ok hoj hok=>hX _ _ _ _ hoj hok (hyes _ _ hoj (hdeps e he hb)) (hyes _ _ hok (hdeps f hf2 hb2)) hne hS1 hS2)
  have next:∀v w',Later w w'→T i (told o a v) w'→(S i=true→zgp w w' (told o a v))→wpAny P .any ops Q fuel (listed.setIfInBounds i true) (a.put o.dst v) w':=by
   intro v w' hl2 hT2 hN2
   have hback:∀j,i≠j→(listed.setIfInBounds i true).getD j true=true→listed.getD j true=true:=by
    intro j hij hjl
    rw [Array.getD_eq_getD_getElem?,Array.getElem?_setIfInBounds,if_neg hij] at hjl
    rw [Array.getD_eq_getD_getElem?]
    exact hjl
   have hon:∀k,listed.getD k false=true→(listed.setIfInBounds i true).getD k false=true:=by
    intro k hk
    rw [Array.getD_eq_getD_getElem?] at hk ⊢
    rw [Array.getElem?_setIfInBounds]
    by_cases hik:i=k
    · simp [hik,show k<listed.size by omega]
    rw [if_neg hik];exact hk
   have hval:∀j oj,ops[j]?=some oj→i≠j→listed.getD j true=true→zbe (a.put o.dst v) oj=zbe a oj:=by
    intro j oj hj hij hjl
    refine zex hj ho (fun d hd hp=>?_)
    obtain ⟨e,he,hb,hon2⟩:=zcj hap hj ho (fun h=>hij h.symm) hd hp
    have:=(hT j oj hj hjl).2.2 e he hb
    rw [hon2] at this
    have h3:=hyes i o ho this
    rw [h3] at h0
    cases h0
   refine ih _ _ _ (by rw [Array.size_setIfInBounds];exact hl) ?_ (htr _ _ _ hw hl2) (zc2 ho hs) ?_ ?_
   · rw [Array.toList_setIfInBounds,List.countP_set (by rw [Array.length_toList];omega)]
     have hf0:listed.toList[i]'(by rw [Array.length_toList];omega)=false:=by
      rw [Array.getD_eq_getD_getElem?] at h0
      simpa [show i<listed.size by omega] using h0
     rw [hf0]
     show listed.toList.countP id - 0+1+fuel=ops.size
     omega
   · intro j oj hj hjl
     by_cases hij:i=j
     · subst hij
       rw [ho] at hj
       obtain rfl:=Option.some.inj hj
       rw [zbm (by rw [hs.size];exact hsz) ho]
       exact ⟨hT2,fun hS x hx=>(hN2 hS x hx).2,fun e he hb=>hon _ (hdeps e he hb)⟩
     have hjl2:=hback j hij hjl
     rw [hval j oj hj hij hjl2]
     obtain ⟨q1,q2,q3⟩:=hT j oj hj hjl2
     exact ⟨hst _ _ _ _ q1 hl2,fun hS x hx=>Nat.lt_of_lt_of_le (q2 hS x hx) (hls _ _ hl2),fun e he hb=>hon _ (q3 e he hb)⟩
   have key:∀j oj,ops[j]?=some oj→i≠j→listed.getD j true=true→S i=true→S j=true→Apart (told o a v) (zbe a oj):=by
    intro j oj hj hij hjl hS1 hS2 x hx e
    have h3:=(hN2 hS1 x hx).1
    have h4:=(hT j oj hj hjl).2.1 hS2 x e
    omega
   intro j k oj ok hj hk hjl hkl hjk hS1 hS2
   by_cases hij:i=j
   · subst hij
     rw [ho] at hj
     obtain rfl:=Option.some.inj hj
     have hkl2:=hback k hjk hkl
     rw [zbm (by rw [hs.size];exact hsz) ho,hval k ok hk hjk hkl2]
     exact key k ok hk hjk hkl2 hS1 hS2
   have hjl2:=hback j hij hjl
   rw [hval j oj hj hij hjl2]
   by_cases hik:i=k
   · subst hik
     rw [ho] at hk
     obtain rfl:=Option.some.inj hk
     rw [zbm (by rw [hs.size];exact hsz) ho]
     exact (key j oj hj hij hjl2 hS2 hS1).symm
   have hkl2:=hback k hik hkl
   rw [hval k ok hk hik hkl2]
   exact hX j k oj ok hj hk hjl2 hkl2 hjk hS1 hS2
  unfold wpOp
  simp only [ho]
  split
  · rename_i hwant
    rw [if_pos hwant] at step
    left
    refine Oper.wp_mono (fun a' w' h'=>?_) step
    obtain ⟨v,rfl,h1,h2,h3⟩:=h'
    exact next v w' h1 h2 h3
  rename_i hwant
  rw [if_neg hwant] at step
  exact next undef w (hrf w) step.1 step.2
theorem zc8 (Later:World→World→Prop) (T:Nat→Value→World→Prop) (S:Nat→Bool) {id:Nat} {a:Act} {w:World} (hm:P.follows .mixedOrders=true)
 (hap:zck ops=true) (hf:zbr ops=true) (hsz:zb3 ops a.tmps.size=true)
 (hrf:∀a,Later a a) (htr:∀a b c,Later a b→Later b c→Later a c) (hst:∀i v w w',T i v w→Later w w'→T i v w') (hls:∀w w',Later w w'→w.heap.size≤w'.heap.size)
 (hdr:Later w { w with drawn:=w.drawn+1 })
 (hop:∀i o,ops[i]?=some o→StepOkB P ops Q Later T S a w i o)
 (hdone:∀a' w',Later w w'→Same ops a a'→(∀i o,ops[i]?=some o→T i (zbe a' o) w')→Q .normal a' w'):(Code.region id ops true).wp P Q a w:=
 wp_region_any hm (wpAny_invB (a0:=a) (w0:=w) hap hf hsz hrf htr hst hls hop hdone ops.size (Array.replicate ops.size false) a _ (by simp) (by simp) hdr ⟨rfl,rfl,fun _ _=>rfl⟩ (fun i o hi hl=>by
  have:=(Array.getElem?_eq_some_iff.1 hi).1
  rw [Array.getD_eq_getD_getElem?] at hl
  simp [this] at hl) (fun i j oi oj hi hj hl=>by
  have:=(Array.getElem?_eq_some_iff.1 hi).1
  rw [Array.getD_eq_getD_getElem?] at hl
  simp [this] at hl))
theorem zak {i:Nat} {o:Oper} {a:Act} {w:World} (hw:Region.wanted o (yielded ops a.tmps)=true) (h:o.wp P a w (fun a' w'=>∃v,a'=a.put o.dst v∧Later w w'∧T i (told o a v) w'∧(S i=true→zgp w w' (told o a v))) Q):
 if Region.wanted o (yielded ops a.tmps)=true then o.wp P a w (fun a' w'=>∃v,a'=a.put o.dst v∧Later w w'∧T i (told o a v) w'∧(S i=true→zgp w w' (told o a v))) Q else T i (told o a undef) w∧(S i=true→zgp w w (told o a undef)):=by rw [if_pos hw];exact h
theorem zao {i:Nat} {o:Oper} {a:Act} {w:World} (hrf:∀a,Later a a) (hS:S i=false) (v:Value) (h:(execOp a.eval o).run P w=.ok (.value v) w) (hT:T i (told o a v) w):o.wp P a w (fun a' w'=>∃v,a'=a.put o.dst v∧Later w w'∧T i (told o a v) w'∧(S i=true→zgp w w' (told o a v))) Q:=by
 unfold Oper.wp
 rw [h]
 exact ⟨v,rfl,hrf w,hT,fun e=>by rw [hS] at e;cases e⟩
theorem okB_call {i:Nat} {o:Oper} {a:Act} {w:World} {f:FuncId} {args:Array Value} (h:(execOp a.eval o).run P w=.ok (.enter f args) w) (hc:Calls P f args w fun e w'=>∃v,e=.returned v∧Later w w'∧T i (told o a v) w'∧(S i=true→zgp w w' (told o a v))):o.wp P a w (fun a' w'=>∃v,a'=a.put o.dst v∧Later w w'∧T i (told o a v) w'∧(S i=true→zgp w w' (told o a v))) Q:=by
 unfold Oper.wp
 rw [h]
 refine Calls.mono hc ?_
 rintro e w' ⟨v,rfl,hl,ht⟩
 exact ⟨v,rfl,hl,ht⟩
end
structure Ent (Later:World→World→Prop) where
 p:Value→World→Prop
 st:∀v w w',p v w→Later w w'→p v w'
def Ent.val {Later:World→World→Prop} (c:Value):Ent Later:=⟨fun v _=>v=c,fun _ _ _ h _=>h⟩
def TE {Later:World→World→Prop} (tab:List (Ent Later)) (i:Nat) (v:Value) (w:World):Prop:=
 match tab[i]? with
 |some e=>e.p v w
 |none=>True
theorem za4 {Later:World→World→Prop} (tab:List (Ent Later)):∀i v w w',TE tab i v w→Later w w'→TE tab i v w':=by
 intro i v w w' h hb
 unfold TE at*
 split at h
 · rename_i e _
   exact e.st _ _ _ h hb
 trivial
section
variable {P:Program} {ops:Array Oper} {Q:Exit→Act→World→Prop} {Later:World→World→Prop} {T:Nat→Value→World→Prop} {a0:Act} {w0:World}
def zev (ops:Array Oper) (L:Nat):Bool:=decide (L<ops.size) && (List.range ops.size).all fun k=>decide (k<L) || (List.range L).all fun j=>zda ops 12 k j
def headOf (n L:Nat):Array Bool:=(List.replicate L true++List.replicate (n - L) false).toArray
theorem wpAny_invT (L:Nat) (hap:zb9 ops=true) (hf:zbr ops=true) (hsz:zb3 ops a0.tmps.size=true) (hwt:zev ops L=true) (hall:allBut ops L=true)
 (hrf:∀a,Later a a) (htr:∀a b c,Later a b→Later b c→Later a c) (hst:∀i v w w',T i v w→Later w w'→T i v w')
 (hop:∀i o,i<L→ops[i]?=some o→zf0 P ops Q Later T a0 w0 i o)
 (hlast:∀a w,Later w0 w→Same ops a0 a→(∀i oi,i<L→ops[i]?=some oi→T i (zcc a oi) w)→wpAny P .any ops Q (ops.size - L) (headOf ops.size L) a w):
 ∀(fuel:Nat) (listed:Array Bool) (a:Act) (w:World),listed.size=ops.size→listed.toList.countP id+fuel=ops.size→(∀k,L≤k→k<ops.size→listed.getD k true=false)→(∀k o,ops[k]?=some o→listed.getD k true=true→∀e∈o.after,Region.binds .any e=true→∀oj,ops[e.on]?=some oj→listed.getD e.on true=true)→Later w0 w→Same ops a0 a→
  (∀i o,ops[i]?=some o→listed.getD i true=true→T i (zcc a o) w)→wpAny P .any ops Q fuel listed a w:=by
 simp only [zev,Bool.and_eq_true,decide_eq_true_eq] at hwt
 obtain ⟨hLs,hwt⟩:=hwt
 intro fuel
 induction fuel with
 |zero=>
  intro listed a w hl hc hnot hcl hw hs hT
  exfalso
  have hnot:=hnot L (Nat.le_refl _) hLs
  have:=List.countP_eq_length.1 (show listed.toList.countP id=listed.toList.length by rw [Array.length_toList];omega) (listed[L]'(by omega)) (by simp)
  rw [Array.getD_eq_getD_getElem?] at hnot
  simp [show L<listed.size by omega] at hnot
  simp [hnot] at this
 |succ fuel ih=>
  intro listed a w hl hc hnot hcl hw hs hT
  refine ⟨fun hr=>?_,fun i hi=>?_⟩
  · exfalso
    have:=zbx hf hl hr L (by omega)
    rw [hnot L (Nat.le_refl _) hLs] at this
    cases this
  rw [mem_ready] at hi
  obtain ⟨h0,o,ho,hdeps⟩:=hi
  have hlt:=(Array.getElem?_eq_some_iff.1 ho).1
  have hdone:∀e∈o.after,Region.binds .any e=true→∀oj,ops[e.on]?=some oj→listed.getD e.on true=true:=by
   intro e he hb oj hoj
   have:=hdeps e he hb
   have hlt2:=(Array.getElem?_eq_some_iff.1 hoj).1
   rw [Array.getD_eq_getD_getElem?] at this ⊢
   have hb2:e.on<listed.size:=by omega
   simpa [hb2] using this
  by_cases hiL:L≤i
  · have hwi:=List.all_eq_true.1 hwt i (List.mem_range.2 hlt)
    simp only [Bool.or_eq_true,decide_eq_true_eq] at hwi
    have hwi2:((List.range L).all fun j=>zda ops 12 i j)=true:=by
     rcases hwi with h|h
     · omega
     exact h
    have hprev:∀j,j<L→listed.getD j true=true:=fun j hj=>zca hcl 12 i o ho hdone j (by omega) (List.all_eq_true.1 hwi2 j (List.mem_range.2 hj))
    have hlst:listed=headOf ops.size L:=by
     apply Array.ext'
     apply List.ext_getElem?
     intro k
     unfold headOf
     simp only [List.toList_toArray]
     by_cases hk:k<L
     · rw [List.getElem?_append_left (by simpa using hk)]
       have:=hprev k hk
       rw [Array.getD_eq_getD_getElem?] at this
       have hks:k<listed.size:=by omega
       simp [hks] at this
       simp [hk,hks,this]
     rw [List.getElem?_append_right (by simp;omega)]
     by_cases hkn:k<ops.size
     · have:=hnot k (by omega) hkn
       rw [Array.getD_eq_getD_getElem?] at this
       have hks:k<listed.size:=by omega
       simp [hks] at this
       simp [hks,this,show k - L<ops.size - L by omega]
     rw [List.getElem?_eq_none (by rw [Array.length_toList];omega),List.getElem?_eq_none (by simp;omega)]
    have hcount:listed.toList.countP id=L:=by
     rw [hlst]
     unfold headOf
     simp [List.countP_append,List.countP_replicate]
    have step:=hlast a w hw hs (fun j oj hj hoj=>hT j oj hoj (hprev j hj))
    rw [show ops.size - L=fuel+1 by omega,←hlst] at step
    exact step.2 i (by rw [mem_ready];exact ⟨h0,o,ho,hdeps⟩)
  have hiL2:i<L:=by omega
  have step:=hop i o hiL2 ho a w hw hs (fun e he hb oj hoj=>hT e.on oj hoj (hdone e he hb oj hoj))
  have hsome:o.dst.isSome=true:=by
   have:=List.all_eq_true.1 hall i (List.mem_range.2 hiL2)
   rw [ho] at this
   exact this
  have next:∀v w',Later w w'→T i v w'→wpAny P .any ops Q fuel (listed.setIfInBounds i true) (a.put o.dst v) w':=by
   intro v w' hl2 hT2
   refine ih _ _ _ (by rw [Array.size_setIfInBounds];exact hl) ?_ ?_ ?_ (htr _ _ _ hw hl2) (zc2 ho hs) ?_
   · rw [Array.toList_setIfInBounds,List.countP_set (by rw [Array.length_toList];omega)]
     have hf0:listed.toList[i]'(by rw [Array.length_toList];omega)=false:=by
      rw [Array.getD_eq_getD_getElem?] at h0
      simpa [show i<listed.size by omega] using h0
     rw [hf0]
     show listed.toList.countP id - 0+1+fuel=ops.size
     omega
   · intro k hk hkn
     rw [Array.getD_eq_getD_getElem?,Array.getElem?_setIfInBounds,if_neg (by omega),←Array.getD_eq_getD_getElem?]
     exact hnot k hk hkn
   · intro k ok hk hkl e he hb oj hoj
     rw [Array.getD_eq_getD_getElem?,Array.getElem?_setIfInBounds]
     by_cases hie:i=e.on
     · rw [if_pos hie]
       split <;> rfl
     rw [if_neg hie,←Array.getD_eq_getD_getElem?]
     by_cases hik:i=k
     · subst hik
       rw [ho] at hk
       obtain rfl:=Option.some.inj hk
       exact hdone e he hb oj hoj
     rw [Array.getD_eq_getD_getElem?,Array.getElem?_setIfInBounds,if_neg hik,←Array.getD_eq_getD_getElem?] at hkl
     exact hcl k ok hk hkl e he hb oj hoj
   intro j oj hj hjl
   by_cases hij:i=j
   · subst hij
     rw [ho] at hj
     obtain rfl:=Option.some.inj hj
     rw [zcb (by rw [hs.size];exact hsz) ho hsome]
     exact hT2
   rw [zew hap ho hj hij]
   refine hst _ _ _ _ (hT j oj hj ?_) hl2
   rw [Array.getD_eq_getD_getElem?,Array.getElem?_setIfInBounds,if_neg hij] at hjl
   rw [Array.getD_eq_getD_getElem?]
   exact hjl
  unfold wpOp
  simp only [ho]
  split
  · rename_i hwant
    rw [if_pos hwant] at step
    left
    refine Oper.wp_mono (fun a' w' h'=>?_) step
    obtain ⟨v,rfl,h1,h2⟩:=h'
    exact next v w' h1 h2
  rename_i hwant
  rw [if_neg hwant] at step
  exact next undef w (hrf w) step
theorem zba (L:Nat) (Later:World→World→Prop) (T:Nat→Value→World→Prop) {id:Nat} {a:Act} {w:World} (hm:P.follows .mixedOrders=true)
 (hap:zb9 ops=true) (hf:zbr ops=true) (hsz:zb3 ops a.tmps.size=true) (hwt:zev ops L=true) (hall:allBut ops L=true)
 (hrf:∀a,Later a a) (htr:∀a b c,Later a b→Later b c→Later a c) (hst:∀i v w w',T i v w→Later w w'→T i v w')
 (hdr:Later w { w with drawn:=w.drawn+1 })
 (hop:∀i o,i<L→ops[i]?=some o→zf0 P ops Q Later T a w i o)
 (hlast:∀a' w',Later w w'→Same ops a a'→(∀i oi,i<L→ops[i]?=some oi→T i (zcc a' oi) w')→wpAny P .any ops Q (ops.size - L) (headOf ops.size L) a' w'):(Code.region id ops true).wp P Q a w:=by
 exact wp_region_any hm (wpAny_invT L (a0:=a) (w0:=w) hap hf hsz hwt hall hrf htr hst hop hlast ops.size (Array.replicate ops.size false) a _ (by simp) (by simp) (fun k hk hkn=>by rw [Array.getD_eq_getD_getElem?];simp [hkn]) (fun k o hk hl=>by
  have:=(Array.getElem?_eq_some_iff.1 hk).1
  rw [Array.getD_eq_getD_getElem?] at hl
  simp [this] at hl) hdr ⟨rfl,rfl,fun _ _=>rfl⟩ (fun i o hi hl=>by
  have:=(Array.getElem?_eq_some_iff.1 hi).1
  rw [Array.getD_eq_getD_getElem?] at hl
  simp [this] at hl))
theorem za6 {fuel:Nat} {listed:Array Bool} {a:Act} {w:World} (i:Nat) (o:Oper) (ho:ops[i]?=some o) (hg:o.guard=none) (hr:Region.ready .any ops listed=[i]) (h:o.wp P a w (fun a' w'=>wpAny P .any ops Q fuel (listed.setIfInBounds i true) a' w') Q):wpAny P .any ops Q (fuel+1) listed a w:=by
 refine ⟨fun e=>(by rw [hr] at e;cases e),fun j hj=>?_⟩
 rw [hr] at hj
 simp at hj
 subst hj
 unfold wpOp
 simp only [ho]
 rw [if_pos (by simp [Region.wanted,hg])]
 exact .inl h
theorem zb2 {listed:Array Bool} {a:Act} {w:World} (hr:Region.ready .any ops listed=[]) (h:Q .normal a w):wpAny P .any ops Q 0 listed a w:=⟨hr,h⟩
end
end Go.Proofs.YtlppibigceeimaaGreatDoor
