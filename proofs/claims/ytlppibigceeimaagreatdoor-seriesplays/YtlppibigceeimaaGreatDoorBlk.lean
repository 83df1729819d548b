import Derived.Test.YtlppibigceeimaaGreatDoorRow
import Derived.Deep.MidRow
set_option linter.unusedSimpArgs false
set_option linter.unusedVariables false
set_option maxHeartbeats 40000000
set_option maxRecDepth 100000
namespace Go.Proofs.YtlppibigceeimaaGreatDoor
open Go.RowKit
def Blk (w:World) (b:Nat) (ty:TypeId) (l:List Value):Prop:=w.heap[b]?=some (.cells l.toArray ty (0,0))
theorem Blk.lt {w:World} {b:Nat} {ty:TypeId} {l:List Value} (h:Blk w b ty l):b<w.heap.size:=(Array.getElem?_eq_some_iff.1 h).1
theorem Blk.cell {w:World} {b:Nat} {ty:TypeId} {l:List Value} (h:Blk w b ty l) (i:Nat):w.cell? ⟨b,i,none⟩=l[i]?:=by
 rw [cell_of_row w b i _ ty (0,0) h];simp
theorem Blk.frozen {w:World} {b:Nat} {ty:TypeId} {l:List Value} (h:Blk w b ty l) (i:Nat):w.frozen? ⟨b,i,none⟩=false:=frozen_of_row w b i _ ty h
theorem Blk.set {w:World} {b:Nat} {ty:TypeId} {l:List Value} (h:Blk w b ty l) (i:Nat) (v:Value):Blk (w.setCell ⟨b,i,none⟩ v) b ty (l.set i v):=by
 unfold Blk at*
 simp [World.setCell,Array.getElem?_modify,h]
theorem Blk.setOff {w:World} {b:Nat} {ty:TypeId} {l:List Value} (h:Blk w b ty l) (a:Addr) (v:Value) (hne:b≠a.block):Blk (w.setCell a v) b ty l:=by
 unfold Blk at*
 rw [heap_setCell_other w a b v hne];exact h
theorem Blk.alloc {w:World} {b:Nat} {ty:TypeId} {l:List Value} (h:Blk w b ty l) (o:Obj):Blk (w.alloc o) b ty l:=by
 have hl:=h.lt
 unfold Blk at*
 rw [Below.heap_alloc _ _ _ hl];exact h
theorem Blk.new (w:World) (ty:TypeId) (l:List Value):Blk (w.alloc (.cells l.toArray ty)) w.heap.size ty l:=by
 unfold Blk
 rw [heap_alloc_new w]
theorem Blk.drew {w:World} {b:Nat} {ty:TypeId} {l:List Value} (h:Blk w b ty l):Blk w.drew b ty l:=h
theorem Blk.drewN {w:World} {b:Nat} {ty:TypeId} {l:List Value} (h:Blk w b ty l) (n:Nat):Blk (w.drewN n) b ty l:=by
 exact h
theorem Blk.below {w w':World} {b B:Nat} {ty:TypeId} {l:List Value} (h:Blk w b ty l) (hb:Below B w w') (hlt:b<B):Blk w' b ty l:=by
 unfold Blk at*
 rw [hb.block b hlt];exact h
theorem Blk.later {w w':World} {b:Nat} {ty:TypeId} {l:List Value} (h:Blk w b ty l) (hb:Below w.heap.size w w'):Blk w' b ty l:=h.below hb h.lt
theorem Blk.there {w:World} {b:Nat} {ty:TypeId} {l:List Value} (h:Blk w b ty l) (o n:Nat) (hn:o+n≤l.length):w.there b o n:=by
 intro j hj
 rw [h.cell,h.frozen]
 simp
 omega
theorem Blk.sets {b:Nat} {ty:TypeId}:∀(vs:List Value) (o:Nat) (w:World) (l:List Value),Blk w b ty l→o+vs.length≤l.length→Blk (w.setCells b o vs) b ty (l.take o++vs++l.drop (o+vs.length))
 |[],o,w,l,h,hn=>by simpa [World.setCells] using h
 |v :: r,o,w,l,h,hn=>by
  simp only [List.length_cons] at hn
  rw [World.setCells]
  have:=Blk.sets r (o+1) _ _ (h.set o v) (by simp;omega)
  have e:(l.set o v).take (o+1)++r++(l.set o v).drop (o+1+r.length)=l.take o++(v :: r)++l.drop (o+(v :: r).length):=by
   rw [List.drop_set_of_lt (by omega),List.take_set,List.take_add_one,List.getElem?_eq_getElem (by omega:o<l.length)]
   rw [List.set_append,if_neg (by simp;omega)]
   simp
   rw [show o - min o l.length=0 by omega]
   simp [Nat.add_comm,Nat.add_left_comm]
  rw [e] at this
  exact this
theorem Blk.setsOff {b:Nat} {ty:TypeId}:∀(vs:List Value) (o c:Nat) (w:World) (l:List Value),Blk w b ty l→b≠c→Blk (w.setCells c o vs) b ty l
 |[],o,c,w,l,h,hn=>h
 |v :: r,o,c,w,l,h,hn=>by
  rw [World.setCells]
  exact Blk.setsOff r (o+1) c _ l (h.setOff _ _ hn) hn
theorem zah {B:Nat} {a w:World} (h:Below B a w) (n:Nat):Below B a (w.drewN n):=
 h.trans ⟨rfl,rfl,rfl,Nat.le_refl _,fun _ _=>rfl⟩
theorem zap {P:Program} {w:World} {ops:Array Oper} {rest:List Oper} {o:Oper} {a:Act} {Q:Exit→Act→World→Prop} (g:o.guard=none) (ty:TypeId) (ho:o.op=.alloc ty) (d:Tmp) (hd:o.dst=some d) (l:List Value) (hi:(P.info? ty).map (fun i=>i.zero.map (·.cells))=some (some l.toArray))
 (h:∀w2,Blk w2 w.heap.size ty l→Below w.heap.size w w2→w2.heap.size=w.heap.size+1→wpList P ops Q rest (a.put (some d) (.pointer (some ⟨w.heap.size,0,none⟩))) w2):wpList P ops Q (o :: rest) a w:=by
 cases hq:P.info? ty with
 |none=>simp [hq] at hi
 |some i=>
  rw [hq] at hi
  simp only [Option.map_some,Option.some.injEq] at hi
  cases hzz:i.zero with
  |none=>rw [hzz] at hi;cases hi
  |some z=>
   rw [hzz] at hi
   simp only [Option.map_some,Option.some.injEq] at hi
   have hr:(Instr.alloc ty true (.tuple #[])).run P w=.ok (.pointer (some ⟨w.heap.size,0,none⟩)) (w.alloc (.cells z.cells ty)):=by
    simp [Instr.alloc,zeroValue,typeInfo,hq,hzz,newVar,newRow]
   rw [hi] at hr
   refine wpList_plain g fun K hK=>?_
   unfold Oper.wp
   simp only [execOp,ho,Sem.run_bind,hr,Result.andThen_ok,Sem.run_pure,Oper.upon,hd]
   exact hK _ _ (h _ (Blk.new w ty l) ((Below.refl _ w).alloc (Nat.le_refl _) _) (by simp))
theorem zac {P:Program} {w:World} {ops:Array Oper} {rest:List Oper} {o:Oper} {a:Act} {Q:Exit→Act→World→Prop} (g:o.guard=none) (ty:TypeId) (x:Operand) (ho:o.op=.box ty x) (l:List Value) (hx:a.eval x=.agg l.toArray)
 (h:∀w2,Blk w2 w.heap.size ty l→Below w.heap.size w w2→w2.heap.size=w.heap.size+1→wpList P ops Q rest (a.put o.dst (.pointer (some ⟨w.heap.size,0,none⟩))) w2):wpList P ops Q (o :: rest) a w:=by
 refine wpList_plain g fun K hK=>?_
 unfold Oper.wp execOp
 simp only [ho,hx,Sem.run_bind,Instr.box,newVar,newRow,run_newObj_alloc,Sem.run_pure,Result.andThen_ok]
 exact hK _ _ (h _ (Blk.new w ty l) ((Below.refl _ w).alloc (Nat.le_refl _) _) (by simp))
theorem za5 {P:Program} {w:World} {ops:Array Oper} {rest:List Oper} {o:Oper} {a:Act} {Q:Exit→Act→World→Prop} (hg:o.guard=none) (ty:TypeId) (x y:Operand) (ho:o.op=.store ty x y) (hd:o.dst=none) (b:Nat) {t:TypeId} {l l0:List Value} (hB:Blk w b t l0)
 (hx:a.eval x=.pointer (some ⟨b,0,none⟩)) (hy:a.eval y=.agg l.toArray) (hl:l.length=l0.length) (hi:(P.info? ty).map (·.size)=some l.length) (hone:∀v∈l,v.oneCell'=true) (h:wpList P ops Q rest a (w.setCells b 0 l)):wpList P ops Q (o :: rest) a w:=by
 refine wpList_store_mid hg ty x y ho b 0 l.toArray hx hy (hB.there 0 _ (by simp [hl])) (by simpa using hi) (all_oneCell_toArray hone) ?_
 rw [hd]
 exact h
theorem zb0 {w:World} {b:Nat} {t:TypeId} {l0 l:List Value} (h:Blk w b t l0) (hl:l.length=l0.length):Blk (w.setCells b 0 l) b t l:=by
 have:=Blk.sets l 0 w l0 h (by omega)
 simpa [hl] using this
end Go.Proofs.YtlppibigceeimaaGreatDoor
