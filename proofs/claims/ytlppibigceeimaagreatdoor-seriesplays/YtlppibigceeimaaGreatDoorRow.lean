import Derived.WalkKit
import Derived.WalkSpells
import Derived.WalkLawsBesides
import Derived.Laws.CopyOwn
import Derived.Laws.AppendOwnNone
import Derived.Laws.BytesArg
import Derived.Lib.SlBytesConst
set_option linter.unusedSimpArgs false
set_option linter.unusedVariables false
set_option maxHeartbeats 40000000
set_option maxRecDepth 100000
namespace Go.Proofs.YtlppibigceeimaaGreatDoor
open Go.RowKit
def zae (l:List Int):List Value:=l.map (Value.int .u8)
theorem zaf (l:List Int):(zae l).length=l.length:=by simp [zae]
theorem za2 (l m:List Int):zae (l++m)=zae l++zae m:=by simp [zae]
theorem zce (l:List Int):∀u∈zae l,u.oneCell'=true:=ints_oneCell .u8 l
def Byte (l:List Int):Prop:=∀n∈l,0≤n∧n≤255
theorem Byte.append {l m:List Int} (h:Byte l) (k:Byte m):Byte (l++m):=by
 intro n hn
 rcases List.mem_append.1 hn with h1|h1
 · exact h n h1
 exact k n h1
theorem Byte.take {l:List Int} (h:Byte l) (k:Nat):Byte (l.take k):=fun n hn=>h n (List.mem_of_mem_take hn)
theorem Byte.drop {l:List Int} (h:Byte l) (k:Nat):Byte (l.drop k):=fun n hn=>h n (List.mem_of_mem_drop hn)
theorem Byte.at {l:List Int} (h:Byte l) (k:Nat):0≤l.getD k 0∧l.getD k 0≤255:=by
 by_cases hk:k<l.length
 · have:=h l[k] (List.getElem_mem hk)
   simpa [List.getD,hk] using this
 simp [List.getD,hk]
structure Sl (w:World) (ad:Option Addr) (k:Nat) (l:List Int):Prop where
 len:l.length=k
 byte:Byte l
 cell:∀j,j<k→∃x,ad=some x∧w.cell? (x.add j)=some (.int .u8 (l.getD j 0))
theorem Sl.nil (w:World) (ad:Option Addr):Sl w ad 0 []:=⟨rfl,fun n hn=>absurd hn (by simp),fun j hj=>absurd hj (by omega)⟩
theorem Sl.at {w:World} {ad:Option Addr} {len:Nat} {l:List Int} (h:Sl w ad len l) (hp:0<len):
 ∃b off,ad=some ⟨b,off,none⟩∧b<w.heap.size∧∀j,j<len→w.cell? ⟨b,off+j,none⟩=some (.int .u8 (l.getD j 0)):=by
 obtain ⟨x,hx,hc⟩:=h.cell 0 hp
 obtain ⟨b,off,sp⟩:=x
 have hs:sp=none:=by simpa [Addr.add] using World.cell?_spot hc
 subst hs
 refine ⟨b,off,hx,?_,fun j hj=>?_⟩
 · exact World.block_lt_of_cell? w _ hc
 obtain ⟨y,hy,hd⟩:=h.cell j hj
 rw [hx] at hy
 obtain rfl:=Option.some.inj hy
 simpa [Addr.add_lit] using hd
theorem Sl.cells {w:World} {x:Addr} {len:Nat} {l:List Int} (h:Sl w (some x) len l):∀j u,(zae l)[j]?=some u→w.cell? (x.add j)=some u:=by
 intro j u hu
 have hj:j<len:=by
  have:=(List.getElem?_eq_some_iff.1 hu).1
  rw [zaf,h.len] at this
  exact this
 obtain ⟨y,hy,hd⟩:=h.cell j hj
 obtain rfl:=Option.some.inj hy
 rw [hd]
 have hl:j<l.length:=by rw [h.len];exact hj
 simpa [zae,List.getD,hl] using hu
theorem zc0 (x:Addr) (j:Nat):(x.add j).block=x.block:=by
 unfold Addr.add
 split <;> rfl
theorem Sl.below {w w':World} {ad:Option Addr} {len:Nat} {l:List Int} (h:Sl w ad len l) {B:Nat} (hb:Below B w w') (hlt:∀x,ad=some x→0<len→x.block<B):Sl w' ad len l:=by
 refine ⟨h.len,h.byte,fun j hj=>?_⟩
 obtain ⟨x,hx,hc⟩:=h.cell j hj
 refine ⟨x,hx,?_⟩
 rw [hb.cell (p:=x.add j) (by rw [zc0];exact hlt x hx (by omega))]
 exact hc
theorem Sl.lt {w:World} {ad:Option Addr} {len:Nat} {l:List Int} (h:Sl w ad len l):∀x,ad=some x→0<len→x.block<w.heap.size:=by
 intro x hx hp
 obtain ⟨y,hy,hc⟩:=h.cell 0 hp
 rw [hx] at hy
 obtain rfl:=Option.some.inj hy
 have:=World.block_lt_of_cell? w _ hc
 rwa [zc0] at this
theorem Sl.later {w w':World} {ad:Option Addr} {len:Nat} {l:List Int} (h:Sl w ad len l) (hb:Below w.heap.size w w'):Sl w' ad len l:=h.below hb h.lt
theorem Sl.cut {w:World} {b off len K N:Nat} {l:List Int} (h:Sl w (some ⟨b,off,none⟩) len l) (hk:K+N≤len) {ad:Option Addr} (hd:0<N→ad=some ⟨b,off+K,none⟩):Sl w ad N ((l.drop K).take N):=by
 have hl:=h.len
 refine ⟨by simp;omega,(h.byte.drop K).take N,fun j hj=>⟨⟨b,off+K,none⟩,hd (by omega),?_⟩⟩
 obtain ⟨x,hx,hc⟩:=h.cell (K+j) (by omega)
 obtain rfl:=Option.some.inj hx
 rw [Addr.add_lit] at hc ⊢
 rw [Nat.add_assoc,hc]
 congr 2
 simp [List.getD,List.getElem?_drop,hj]
theorem zbp {w:World} {base:Nat} {ad:Option Addr} {n cap:Nat} {l:List Int} (h:w.ownsRow base 5 1 (.slice ad n cap) n (zae l)) (hb:Byte l):Sl w ad n l:=by
 have hlen:l.length=n:=by have:=h.1;rw [zaf] at this;omega
 refine ⟨hlen,hb,fun j hj=>?_⟩
 rcases h.2 with ⟨_,h0⟩|⟨g,c,cur,hv,_⟩
 · omega
 simp only [Value.slice.injEq] at hv
 obtain ⟨rfl,_,rfl⟩:=hv
 refine ⟨_,rfl,?_⟩
 rw [Addr.add_lit,h.cellAt (0+j) (by omega)]
 simp [zae,List.getD,show j<l.length by omega]
theorem zav {P:Program} (src e dst:TypeId) (hs:P.underlying src=some (.slice e)) (he:P.underlying e=some (.int .u8)) (hd:P.underlying dst=some .string)
 {w:World} {ad:Option Addr} {len cap:Nat} {l:List Int} (h:Sl w ad len l):(convert src dst (.slice ad len cap)).run P w=.ok (.string (strOfNums l)) w:=by
 cases ad with
 |none=>
  have h0:len=0:=by
   rcases Nat.eq_zero_or_pos len with h0|h0
   · exact h0
   obtain ⟨x,hx,_⟩:=h.cell 0 h0
   cases hx
  subst h0
  have hl:l=[]:=List.eq_nil_of_length_eq_zero h.len
  subst hl
  exact run_convert_bytes_nil w src e hs he 0 cap dst hd
 |some x=>
  have hl:(loadCells x len).run P w=.ok (l.map (Value.int .u8)).toArray w:=by
   have:=run_loadCells_list (P:=P) w x (zae l) h.cells
   rw [zaf,h.len] at this
   exact this
  rw [run_convert_bytes_string w src dst e _ len cap hs he hd,run_bytesToString w _ len cap l hl,foldl_push_bytes]
  simp [strOfNums,ByteArray.empty,ByteArray.emptyWithCapacity]
  rfl
theorem zee {P:Program} (w:World) {ops:Array Oper} {rest:List Oper} {o:Oper} {a:Act} {Q:Exit→Act→World→Prop}
 (hg:o.guard=none) (l c:Operand) (t:TypeId) (hop:o.op=Op.makeSlice t l c)
 (e:TypeId) (i:TypeInfo) (z:Value) (h1:P.underlying t=some (.slice e)) (h2:P.info? e=some i) (h3:i.zero=some z) (h4:i.size=1) (h5:i.bytes=1) (h6:z.cells=#[z])
 (kl kc:IntKind) (L C:Int) (n m:Nat) (hl:a.eval l=.int kl L) (hc:a.eval c=.int kc C) (hL:L=(n:Int)) (hC:C=(m:Int)) (hnm:n≤m) (b2:m≤281474976710656)
 (hK:∀w',w'.heap[w.heap.size]?=some (.cells (List.replicate m z).toArray e (0,0))→w'.heap.size=w.heap.size+1→Below w.heap.size w w'→wpList P ops Q rest (a.put o.dst (.slice (some ⟨w.heap.size,0,none⟩) n m)) w'):
 wpList P ops Q (o :: rest) a w:=by
 refine wpList_plain hg fun K hK'=>?_
 subst hL;subst hC
 have hr:=run_make (P:=P) w t e i z h1 h2 h3 kl kc n m (by omega) (by omega) (by rw [h5];omega) (by omega)
 rw [h4,h6] at hr
 simp only [Int.toNat_natCast,Nat.mul_one] at hr
 unfold Oper.wp
 simp [execOp,hop,hl,hc,hr,Result.andThen]
 refine hK' _ _ (hK _ ?_ (by simp) ((Below.refl _ _).alloc (Nat.le_refl _) _))
 rw [heap_alloc_new w]
 have:=toList_madeCells_one z m
 rw [←this]
theorem zc4 {w:World} {base:Nat} {e:TypeId} {ad:Option Addr} {n cap m:Nat} {xs:List Value} (h:w.ownsRow base e 1 (.slice ad n cap) m xs):n=m∧m≤cap∧cap≤maxLen∧(ad=none→m=0∧cap=0):=by
 rcases h.2 with ⟨h1,h2⟩|⟨g,c,cur,h1,_,_,h3,h4,_⟩
 · simp only [Value.slice.injEq] at h1
   obtain ⟨rfl,rfl,rfl⟩:=h1
   exact ⟨h2.symm,by omega,by unfold maxLen;omega,fun _=>⟨h2,rfl⟩⟩
 simp only [Value.slice.injEq] at h1
 obtain ⟨rfl,rfl,rfl⟩:=h1
 exact ⟨rfl,h3,h4,fun h=>by cases h⟩
theorem zal {w:World} {base:Nat} {e:TypeId} {v:Value} {n:Nat} {xs:List Value} (h:w.ownsRow base e 1 v n xs):∃ad c,v=.slice ad n c:=by
 rcases h.2 with ⟨h1,h2⟩|⟨g,c,cur,h1,_⟩
 · subst h2;exact ⟨_,_,h1⟩
 exact ⟨_,_,h1⟩
theorem zcq {P:Program} (w:World) {ops:Array Oper} {rest:List Oper} {o:Oper} {a:Act} {Q:Exit→Act→World→Prop} (hgd:o.guard=none) (s x:Operand) (t:TypeId)
 (ho:o.op=.call { callee:=.builtin .append,args:=#[s,x],argTypes:=#[t,t] })
 (base:Nat) (e:TypeId) (i:TypeInfo) (z:Value) (ht:P.underlying t=some (.slice e)) (hi:P.info? e=some i) (hz:i.zero=some z)
 (hsize:i.size=1) (hby:i.bytes=1) (hzs:z.cells.size=1)
 (v:Value) (n:Nat) (xs:List Int) (hs:a.eval s=v) (hown:w.ownsRow base e 1 v n (zae xs))
 (ad:Option Addr) (m c:Nat) (l:List Int) (hx:a.eval x=.slice ad m c) (hsl:Sl w ad m l) (hnone:ad=none→m=0∧c=0)
 (hbytes:n+m≤140737488355328) (hbase:base≤w.heap.size)
 (h:∀ad' c' w',w'.ownsRow base e 1 (.slice ad' (n+m) c') (n+m) (zae (xs++l))→w.grownBy w' v.ownBlock→wpList P ops Q rest (a.put o.dst (.slice ad' (n+m) c')) w'):wpList P ops Q (o :: rest) a w:=by
 cases ad with
 |none=>
  obtain ⟨rfl,rfl⟩:=hnone rfl
  have hl:l=[]:=List.eq_nil_of_length_eq_zero hsl.len
  subst hl
  refine wpList_append_own_none hgd s x t ho base e i 1 ht hi v n _ hs hown hx ?_
  obtain ⟨ad',c',rfl⟩:=zal hown
  exact h ad' c' w (by simpa using hown) (World.grownBy.refl _ _)
 |some x'=>
  refine wpList_append_own w hgd s x t ho base e i z 1 1 ht hi hz hsize hby hzs (by omega) v n _ hs hown x' m c (zae l) hx (by rw [zaf,hsl.len];omega) hsl.cells (zce l) (by unfold maxLen;omega) (by omega) hbase ?_
  intro v' w' h1 h2 _
  obtain ⟨ad',c',rfl⟩:=zal h1
  rw [←za2] at h1
  exact h ad' c' w' h1 h2
theorem zcm {base:Nat} {w w':World} {v:Value} {e:TypeId} {size n:Nat} {xs:List Value} (hg:w.grownBy w' v.ownBlock) (hown:w.ownsRow base e size v n xs) (hb:base≤w.heap.size):Below base w w':=
 (Below.refl _ _).grown hg hb (fun k hk=>(hown.lt k hk).1)
theorem Sl.take {w:World} {ad:Option Addr} {len N:Nat} {l:List Int} (h:Sl w ad len l) (hk:N≤len):Sl w ad N (l.take N):=by
 have hl:=h.len
 refine ⟨by simp;omega,h.byte.take N,fun j hj=>?_⟩
 obtain ⟨x,hx,hc⟩:=h.cell j (by omega)
 refine ⟨x,hx,?_⟩
 rw [hc]
 congr 2
 simp [List.getD,hj]
end Go.Proofs.YtlppibigceeimaaGreatDoor
