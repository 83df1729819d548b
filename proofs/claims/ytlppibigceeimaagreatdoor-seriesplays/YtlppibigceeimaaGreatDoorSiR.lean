import Derived.Test.YtlppibigceeimaaGreatDoorShO
import Derived.Test.YtlppibigceeimaaGreatDoorSiG
import Derived.Lib.LaidU8
import Derived.OpenShut
import Derived.ChangeOld
import Derived.Deep.Slices
import Derived.ProofKit
import Derived.SizedLaws
import Derived.Lay
import Derived.LaidOnce
import Derived.SevenTiedAt
set_option linter.unusedSimpArgs false
set_option linter.unusedVariables false
set_option maxHeartbeats 40000000
set_option maxRecDepth 100000
namespace Go.Proofs.YtlppibigceeimaaGreatDoor
open Go.ChangeShapes Go.WideShapes Go.ChangeAt Go.RowKit
open Go.ChangeMaps (open_string shut_string)
def Es (w:World) (ad:Option Addr) (k:Nat) (L:List (List Value)):Prop:=
 L≠[]→∃b off,ad=some ⟨b,off,none⟩∧b<w.heap.size∧∀i x,L[i]?=some x→∀j v,x[j]?=some v→w.cell? ⟨b,off+i*k+j,none⟩=some v
theorem zd9 {P:Program} {W:World} {name:String} {k:IntKind} {zs:List Int} {g:Nat} {t e:TypeId} {n:Nat}
 (hg:P.globalNamed name=some g) (hty:(P.globals[g]?).map (·.type)=some t) (ht:P.underlying t=some (.array n e)) (he:P.underlying e=some (.int k)) (hce:P.cellsOf e=1) (hct:P.cellsOf t=n)
 (h:Lib.VarReads P W name (Lib.tabData k zs)):Lib.TabIs P W name k zs:=by
 obtain ⟨g',t',cs,fuel,p,hg',ht',hvar,hd⟩:=h
 obtain rfl:=Option.some.inj (hg.symm.trans hg')
 obtain rfl:=Option.some.inj (hty.symm.trans ht')
 unfold Lib.TabIs
 rw [hvar,←Lib.cells_of_tab ht he hce hct hd]
def dbI:List Int:=Lib.deBruijn64tab.map (fun (n:Nat)=>(n:Int))
def wdI:List Int:=[0,7,9,12]
theorem gv_laid {W:World} (hL:laidMetH Tryz.prog [("math/bits.deBruijn64tab",Rows.laid_math_bits_deBruijn64tab),("turnkey/chunk.shortWidths",Rows.laid_turnkey_chunk_shortWidths)] W):Gv W:=by
 rw [MakeChecks.laidMetH_plain _ _ _ (by kernel_rfl)] at hL
 have h1:=Lib.laidMet.reads hL (.head _)
 have h2:=Lib.laidMet.reads hL (.tail _ (.head _))
 have t1:Lib.TabIs Tryz.prog W "math/bits.deBruijn64tab" .u8 dbI:=zd9 (g:=0) (by kernel_rfl) (t:=199) (by kernel_rfl) Tryz.underlying199 Tryz.underlying5 (by kernel_rfl) (by kernel_rfl) ((show (Rows.laid_math_bits_deBruijn64tab:DataW Unit)=Lib.tabData .u8 dbI by kernel_rfl)▸h1)
 have t2:Lib.TabIs Tryz.prog W "turnkey/chunk.shortWidths" .i64 wdI:=zd9 (g:=1) (by kernel_rfl) (t:=216) (by kernel_rfl) Tryz.underlying216 Tryz.underlying3 (by kernel_rfl) (by kernel_rfl) ((show (Rows.laid_turnkey_chunk_shortWidths:DataW Unit)=Lib.tabData .i64 wdI by kernel_rfl)▸h2)
 refine ⟨fun j hj=>?_,fun j hj=>?_⟩
 · have:=t2.cell (g:=1) (by kernel_rfl) j (by simpa [wdI] using hj)
   rw [this]
   rcases (show j=0∨j=1∨j=2∨j=3 by omega) with rfl|rfl|rfl|rfl <;> rfl
 have hl:dbI.length=64:=by decide+kernel
 have:=t1.cell (g:=0) (by kernel_rfl) j (by omega)
 rw [this]
 congr 2
 have hl2:Lib.deBruijn64tab.length=64:=by decide+kernel
 simp [dbI,List.getD,hl2,hj]
theorem zb6 {H:Type} {P:Program} {e:TypeId}:∀{ds:List (DataW H)} {d:DataW H},d∈ds→∀n∈d.weights P e,n∈DataW.weightsAll P e ds
 |y :: t,d,hd,n,hn=>by
  simp only [DataW.weightsAll,List.mem_append]
  rcases List.mem_cons.1 hd with rfl|hd
  · exact .inl hn
  exact .inr (zb6 hd n hn)
theorem bnds_u8 {n:Int} (h:(Lit.int .u8 n).wf=true):0≤n∧n≤255:=by
 simp [Lit.wf,IntKind.min,IntKind.max,IntKind.signed,IntKind.bits] at h
 omega
theorem zcp {n:Int} (h:(Lit.int .i64 n).wf=true):I64 n:=by
 simp [Lit.wf,IntKind.min,IntKind.max,IntKind.signed,IntKind.bits] at h
 unfold I64
 omega
theorem bnds_u64 {n:Int} (h:(Lit.int .u64 n).wf=true):0≤n∧n<18446744073709551616:=by
 simp [Lit.wf,IntKind.min,IntKind.max,IntKind.signed,IntKind.bits] at h
 omega
section
variable {H:Type} {enc:TypeId×Value→H} {w:World} {base:Nat}
def Rd (enc:TypeId×Value→H) (w:World) (base n:Nat) (t:TypeId) (cs:List Value):Prop:=
 ∃x,DataW.trod enc Tryz.prog w base (fun _=>true) true n t cs=some x∧∀k∈x.1.weights Tryz.prog t,k≤reachBytes
theorem Rd.one {t:TypeId} {n:Nat} {fs:Array Field} {cs:List Value} (h:Rd enc w base n t cs) (ht:Tryz.prog.underlying t=some (.struct fs)) (hc:Tryz.prog.cellsOf t=fs.size)
 (hone:((List.range fs.size).all fun i=>match fs[i]? with|some f=>f.offset==i && Tryz.prog.cellsOf f.type==1|none=>false)=true):
 cs.length=fs.size∧∃m,∀(i:Nat) (f:Field),fs[i]?=some f→∃v,cs[i]?=some v∧Rd enc w base m f.type [v]:=by
 obtain ⟨x,h,hwt⟩:=h
 obtain ⟨xs,m,_,rfl,hl,hxl,hf⟩:=DataW.trod_struct ht h
 refine ⟨by omega,m,fun i f hi=>?_⟩
 have hi':i<fs.size:=(Array.getElem?_eq_some_iff.1 hi).1
 have h1:=List.all_eq_true.1 hone i (List.mem_range.2 hi')
 simp only [hi,Bool.and_eq_true,beq_iff_eq] at h1
 have h2:=hf i f hi
 rw [h1.1,h1.2] at h2
 have hic:i<cs.length:=by omega
 have hix:i<xs.length:=by omega
 have e:(cs.drop i).take 1=[cs[i]]:=by
  rw [List.drop_eq_getElem_cons hic]
  rfl
 rw [e,List.getElem?_eq_getElem hix] at h2
 refine ⟨cs[i],List.getElem?_eq_getElem hic,xs[i],h2,fun k hk=>hwt k ?_⟩
 simp only [DataW.weights,ht]
 refine DataW.weights_mem_each (j:=i) (t:=f.type) (d:=xs[i].1) ?_ ?_ k hk
 · simp [hi]
 simp [hix]
theorem Rd.list {α:Type} [Inhabited α] {t e:TypeId} {k n:Nat} {v:Value} (f:α→List Value) (Q:α→Prop) (h:Rd enc w base n t [v]) (ht:Tryz.prog.underlying t=some (.slice e)) (hc:Tryz.prog.cellsOf e=k) (hk:0<k) (hfl:∀s,(f s).length=k)
 (each:∀m cs,cs.length=k→Rd enc w base m e cs→∃s,cs=f s∧Q s):
 ∃(a:Option Addr) (cap:Nat) (l:List α),v=.slice a l.length cap∧l.length≤cap∧cap≤9223372036854775807∧(a=none→l.length=0∧cap=0)∧Es w a k (l.map f)∧(∀x∈l,Q x)∧l.length*Tryz.prog.bytesOf e≤reachBytes:=by
 obtain ⟨x,h,hwt⟩:=h
 rcases Go.Deep.open_slice ht h with ⟨hcs,_⟩|⟨a,len,cap,m,n,D,Pl,hcs,_,hl,hm,hmm,hxd,hx⟩
 · simp at hcs
   exact ⟨none,0,[],hcs,by simp,by omega,fun _=>⟨rfl,rfl⟩,fun h=>absurd rfl h,by simp,by simp⟩
 simp at hcs
 subst hcs hxd
 have hlm:len≤m:=by
  rw [hmm]
  split <;> omega
 have each':∀i,i<len→∃s:α,(∀j u,(f s)[j]?=some u→w.cell? ((a.add (i*k)).add j)=some u)∧Q s:=by
  intro i hi
  obtain ⟨cs',h1,h2⟩:=hx i (by omega)
  rw [hc] at h1
  obtain ⟨_,hlen,hcell⟩:=World.cells?_some h1
  obtain ⟨s,rfl,hq⟩:=each _ cs' hlen ⟨_,h2,fun k hk=>hwt k (by
   simp only [DataW.weights,ht,List.mem_cons,List.mem_append]
   exact .inr (.inl (zb6 (List.mem_map.2 ⟨i,List.mem_range.2 hi,rfl⟩) k hk)))⟩
  refine ⟨s,fun j u hu=>?_,hq⟩
  rw [hcell j (by have:=(List.getElem?_eq_some_iff.1 hu).1;omega),hu]
 obtain ⟨y,hy⟩:=Go.Deep.choose_lt each'
 unfold maxLen at hm
 refine ⟨some a,cap,(List.range len).map y,by simp,by simpa using hl,by omega,fun e=>(by cases e),fun h0=>?_,fun z hz=>?_,?_⟩
 · have h0':0<len:=by
    rcases Nat.eq_zero_or_pos len with e|e
    · rw [e] at h0;simp at h0
    exact e
   obtain ⟨b,off,sp⟩:=a
   have hu:(f (y 0))[0]?=some ((f (y 0))[0]'(by rw [hfl];exact hk)):=List.getElem?_eq_getElem _
   have c:=(hy 0 h0').1 0 _ hu
   have hs:sp=none:=by simpa [Addr.add] using World.cell?_spot c
   subst hs
   refine ⟨b,off,rfl,?_,fun i z hz j u hu=>?_⟩
   · have:=World.block_lt_of_cell? w _ c
     simpa [Addr.add] using this
   have hi:i<len:=by have:=(List.getElem?_eq_some_iff.1 hz).1;simpa using this
   have hz':z=f (y i):=by simp [List.getElem?_map,hi] at hz;exact hz.symm
   subst hz'
   have k:=(hy i hi).1 j u hu
   simpa only [Addr.add_lit] using k
 · obtain ⟨i,hi,rfl⟩:=List.mem_map.1 hz
   exact (hy i (List.mem_range.1 hi)).2
 have:=hwt ((len+(m - len))*Tryz.prog.bytesOf e) (by simp [DataW.weights,ht])
 refine Nat.le_trans ?_ this
 simp only [List.length_map,List.length_range]
 exact Nat.mul_le_mul_right _ (by omega)
theorem Rd.int {t:TypeId} {n:Nat} {k:IntKind} {v:Value} (h:Rd enc w base n t [v]) (ht:Tryz.prog.underlying t=some (.int k)):∃z,v=.int k z∧(Lit.int k z).wf=true:=by
 obtain ⟨x,h,_⟩:=h
 obtain ⟨z,e,_,b⟩:=DataW.trod_int ht h
 exact ⟨z,by simpa using e,b⟩
theorem Rd.str {t:TypeId} {n:Nat} {v:Value} (h:Rd enc w base n t [v]) (ht:Tryz.prog.underlying t=some .string):∃s,v=.string s:=by
 obtain ⟨x,h,_⟩:=h
 obtain ⟨z,e,_,b⟩:=DataW.trod_string ht h
 exact ⟨z,by simpa using e⟩
theorem rd_bytes {n:Nat} {v:Value} (h:Rd enc w base n 84 [v]):∃(a:Option Addr) (k c:Nat) (l:List Int),v=.slice a k c∧Sl w a k l∧k≤c∧c≤9223372036854775807∧(a=none→k=0∧c=0):=by
 obtain ⟨a,cap,l,e,h1,h2,h3,h4,h5,h6⟩:=h.list (k:=1) (fun z:Int=>[Value.int .u8 z]) (fun z=>0≤z∧z≤255) Tryz.underlying84 (by kernel_rfl) (by omega) (fun _=>rfl) (fun m cs hl hr=>by
  match cs,hl with
  |[v],_=>
   obtain ⟨z,rfl,b⟩:=hr.int Tryz.underlying5
   exact ⟨z,rfl,bnds_u8 b⟩)
 refine ⟨a,l.length,cap,l,e,⟨rfl,fun z hz=>h5 z hz,fun j hj=>?_⟩,h1,h2,h3⟩
 obtain ⟨b,off,ea,hlt,hc⟩:=h4 (by intro e0;simp at e0;subst e0;simp at hj)
 refine ⟨⟨b,off,none⟩,ea,?_⟩
 have:=hc j [Value.int .u8 l[j]] (by simp [List.getElem?_map,hj]) 0 _ rfl
 simp only [Addr.add_lit]
 simpa [List.getD,hj] using this
def smX (s:Sm):List Value:=[.int .i64 s.t,.int .u64 (s.v:Int)]
theorem rd_sample {n:Nat} {cs:List Value} (hl:cs.length=2) (h:Rd enc w base n 53 cs):∃s:Sm,cs=smX s∧OkS s:=by
 obtain ⟨_,m,hf⟩:=h.one Tryz.underlying53 (by kernel_rfl) (by kernel_rfl)
 obtain ⟨v0,c0,g0⟩:=hf 0 _ rfl
 obtain ⟨v1,c1,g1⟩:=hf 1 _ rfl
 obtain ⟨s0,rfl,b0⟩:=g0.int Tryz.underlying2
 obtain ⟨s1,rfl,b1⟩:=g1.int Tryz.underlying51
 have b:=bnds_u64 b1
 refine ⟨⟨s0,s1.toNat⟩,?_,⟨zcp b0,(by omega:s1.toNat<18446744073709551616)⟩⟩
 match cs,hl with
 |[a,c],_=>
  simp at c0 c1
  subst c0 c1
  unfold smX
  show [Value.int .i64 s0,Value.int .u64 s1]=[Value.int .i64 s0,Value.int .u64 ((s1.toNat:Nat):Int)]
  rw [show ((s1.toNat:Nat):Int)=s1 by omega]
instance:Inhabited Sm:=⟨⟨0,0⟩⟩
theorem rd_samples {n:Nat} {v:Value} (h:Rd enc w base n 46 [v]):∃(a:Option Addr) (cap:Nat) (l:List Sm),v=.slice a l.length cap∧l.length≤cap∧cap≤9223372036854775807∧(a=none→l=[]∧cap=0)∧Ss w a l:=by
 obtain ⟨a,cap,l,e,h1,h2,h3,h4,h5,h6⟩:=h.list smX OkS Tryz.underlying46 (by kernel_rfl) (by omega) (fun _=>rfl) (fun m cs hl hr=>rd_sample hl hr)
 refine ⟨a,cap,l,e,h1,h2,fun e=>⟨List.eq_nil_of_length_eq_zero (h3 e).1,(h3 e).2⟩,⟨h5,fun h0=>?_⟩⟩
 obtain ⟨b,off,ea,hlt,hc⟩:=h4 (by intro e0;simp at e0;exact h0 e0)
 refine ⟨b,off,ea,hlt,fun i x hx=>⟨?_,?_⟩⟩
 · have:=hc i (smX x) (by simp [List.getElem?_map,hx]) 0 _ rfl
   simpa using this
 exact hc i (smX x) (by simp [List.getElem?_map,hx]) 1 _ rfl
structure Chx where
 a:Option Addr
 c:Nat
 l:List Int
instance:Inhabited Chx:=⟨⟨none,0,[]⟩⟩
def Chx.ok (w:World) (z:Chx):Prop:=Sl w z.a z.l.length z.l∧z.l.length≤z.c∧z.c≤9223372036854775807∧(z.a=none→z.c=0)
theorem rd_chunks {n:Nat} {v:Value} (h:Rd enc w base n 34 [v]):∃(a:Option Addr) (cap:Nat) (C:List (List Int)),v=.slice a C.length cap∧LbF w w.heap.size (fun _=>False) a C:=by
 obtain ⟨a,cap,l,e,h1,h2,h3,h4,h5,h6⟩:=h.list (k:=1) (fun z:Chx=>[Value.slice z.a z.l.length z.c]) (Chx.ok w) Tryz.underlying34 (by kernel_rfl) (by omega) (fun _=>rfl) (fun m cs hl hr=>by
  match cs,hl with
  |[v],_=>
   obtain ⟨a,k,c,l,rfl,hs,hkc,hc,hn⟩:=rd_bytes hr
   obtain rfl:=hs.len
   exact ⟨⟨a,c,l⟩,rfl,hs,hkc,hc,fun e=>(hn e).2⟩)
 refine ⟨a,cap,l.map (·.l),by rw [List.length_map];exact e,fun i b hb=>?_⟩
 rw [List.getElem?_map] at hb
 obtain ⟨z,hz,rfl⟩:∃z,l[i]?=some z∧z.l=b:=by
  cases hli:l[i]? with
  |none=>rw [hli] at hb;cases hb
  |some z=>rw [hli] at hb;exact ⟨z,rfl,by simpa using hb⟩
 obtain ⟨g,off,ea,hlt,hc⟩:=h4 (by intro e0;simp at e0;subst e0;simp at hz)
 obtain ⟨q1,q2,q3,q4⟩:=h5 z (List.mem_of_getElem? hz)
 have:=hc i [Value.slice z.a z.l.length z.c] (by simp [List.getElem?_map,hz]) 0 _ rfl
 refine ⟨g,off,z.a,z.c,ea,hlt,by simpa using this,q1,q2,by unfold maxLen;omega,q4,fun x hx h0=>⟨fun e=>e,?_⟩⟩
 obtain ⟨y,hy,hcell⟩:=q1.cell 0 h0
 rw [hx] at hy
 cases hy
 have:=World.block_lt_of_cell? w _ hcell
 simpa [Addr.add] using this
structure Sx8 where
 s:Stq
 L:List Sm
 C:List (List Int)
instance:Inhabited Sx8:=⟨⟨⟨0,0,0,⟨#[]⟩,none,0,0,0,0,none,0,0⟩,[],[]⟩⟩
structure StOk (w:World) (x:Sx8):Prop where
 kd:I64 x.s.kd
 on:I64 x.s.on
 id:I64 x.s.id
 f:I64 x.s.f
 t:I64 x.s.t
 l:Ss w x.s.la x.L
 ln:x.L.length=x.s.ln
 lc:x.s.ln≤x.s.lc
 no:x.s.la=none→x.L=[]∧x.s.lc=0
 c:LbF w w.heap.size (fun _=>False) x.s.ca x.C
 cn:x.C.length=x.s.cn
theorem rd_step {n:Nat} {cs:List Value} (hl:cs.length=8) (h:Rd enc w base n 48 cs):∃x:Sx8,cs=x.s.cells∧StOk w x:=by
 obtain ⟨_,m,hf⟩:=h.one Tryz.underlying48 (by kernel_rfl) (by kernel_rfl)
 obtain ⟨v0,c0,g0⟩:=hf 0 _ rfl
 obtain ⟨v1,c1,g1⟩:=hf 1 _ rfl
 obtain ⟨v2,c2,g2⟩:=hf 2 _ rfl
 obtain ⟨v3,c3,g3⟩:=hf 3 _ rfl
 obtain ⟨v4,c4,g4⟩:=hf 4 _ rfl
 obtain ⟨v5,c5,g5⟩:=hf 5 _ rfl
 obtain ⟨v6,c6,g6⟩:=hf 6 _ rfl
 obtain ⟨v7,c7,g7⟩:=hf 7 _ rfl
 obtain ⟨z0,rfl,b0⟩:=g0.int Tryz.underlying3
 obtain ⟨z1,rfl,b1⟩:=g1.int Tryz.underlying3
 obtain ⟨z2,rfl,b2⟩:=g2.int Tryz.underlying3
 obtain ⟨z3,rfl⟩:=g3.str Tryz.underlying9
 obtain ⟨a4,k4,L,rfl,q1,q2,q3,q4⟩:=rd_samples g4
 obtain ⟨z5,rfl,b5⟩:=g5.int Tryz.underlying2
 obtain ⟨z6,rfl,b6⟩:=g6.int Tryz.underlying2
 obtain ⟨a7,k7,C,rfl,r1⟩:=rd_chunks g7
 match cs,hl with
 |[a0,a1,a2,a3,a4',a5,a6,a7'],_=>
  simp at c0 c1 c2 c3 c4 c5 c6 c7
  subst c0 c1 c2 c3 c4 c5 c6 c7
  exact ⟨⟨⟨z0,z1,z2,z3,a4,L.length,k4,z5,z6,a7,C.length,k7⟩,L,C⟩,rfl,zcp b0,zcp b1,zcp b2,zcp b5,zcp b6,q4,rfl,q1,q3,r1,rfl⟩
theorem open_script {W:World} {a:Option Addr} {len cap:Nat} {d:DataW H} {ps:List MemPlace} (h:DataW.Trod enc Tryz.prog W 0 (fun _=>true) true 22 (.slice a len cap) d ps) (hw:∀k∈d.weights Tryz.prog 22,k≤reachBytes):
 ∃l:List Sx8,l.length=len∧len≤9223372036854775807∧Es W a 8 (l.map fun x=>x.s.cells)∧∀x∈l,StOk W x:=by
 obtain ⟨fuel,hf⟩:=h
 obtain ⟨a9,cap9,l,e,h1,h2,h3,h4,h5,h6⟩:=Rd.list (enc:=enc) (base:=0) (k:=8) (fun x:Sx8=>x.s.cells) (StOk W) (⟨_,hf,hw⟩:Rd enc W 0 fuel 22 [.slice a len cap]) Tryz.underlying22 (by kernel_rfl) (by omega) (fun _=>rfl) (fun m cs hl hr=>rd_step hl hr)
 simp only [Value.slice.injEq] at e
 obtain ⟨rfl,rfl,rfl⟩:=e
 exact ⟨l,rfl,by omega,h4,h5⟩
end
theorem gv_size {W:World} (h:Gv W):2≤W.heap.size:=by
 have:=World.block_lt_of_cell? W _ (h.wid 0 (by omega))
 simp at this
 omega
end Go.Proofs.YtlppibigceeimaaGreatDoor
namespace Go.Proofs.YtlppibigceeimaaGreatDoor
open Go.RowKit
section
variable {w0 w:World} {v:Nat} {P S R D n:Nat→Nat} {T:Nat}
theorem WX.up {U:Nat} (h:WX w0 v P S R D n T w) (hU:T≤U):WX w0 v P S R D n U w:=by
 obtain ⟨st,su,Z,E,F,H,vl,vc,Ll,Lc,h1,h2,h3⟩:=h
 exact ⟨st,su,Z,E,F,H,vl,vc,Ll,Lc,h1,h2,fun k hk=>Nat.le_trans (h3 k hk) hU⟩
theorem stepP (h:WX w0 v P S R D n T w) (hT:T≤1000) (x:Sx8) (hx:StOk w0 x):
 Calls Tryz.prog 10 #[pV v,.agg x.s.cells.toArray] w fun e w'=>e=.returned (.bool true)∧WX w0 v P S R D n (T+1) w':=by
 have hon:=hx.on
 unfold I64 at hon
 have up:∀{e:Ending} {w':World},e=.returned (.bool true)∧WX w0 v P S R D n T w'→e=.returned (.bool true)∧WX w0 v P S R D n (T+1) w':=fun ⟨a,b⟩=>⟨a,b.up (by omega)⟩
 by_cases h1:x.s.kd=1
 · exact stepP1 w h hT x.s h1 hon x.L hx.l hx.ln hx.lc hx.no
 by_cases h2:x.s.kd=2
 · exact (stepP2 w h hT x.s h2 hon x.L hx.l hx.ln hx.lc hx.no).mono fun _ _=>up
 by_cases h3:x.s.kd=3
 · exact (stepP3 w h hT x.s h3 hon).mono fun _ _=>up
 by_cases h4:x.s.kd=4
 · exact (stepP4 w h hT x.s h4 hon).mono fun _ _=>up
 by_cases h5:x.s.kd=5
 · exact stepP5 w h hT x.s h5 hon x.C hx.c hx.cn
 by_cases h6:x.s.kd=6
 · exact (stepP6 w h hT x.s h6 hon).mono fun _ _=>up
 by_cases h7:x.s.kd=7
 · exact stepP7 w h hT x.s h7 hon
 by_cases h8:x.s.kd=8
 · exact stepP8 w h hT x.s h8 hon hx.f x.L hx.l hx.ln
 exact (stepP0 w h x.s (fun i hi h0=>by
  rcases (show i=1∨i=2∨i=3∨i=4∨i=5∨i=6∨i=7∨i=8 by omega) with rfl|rfl|rfl|rfl|rfl|rfl|rfl|rfl <;> assumption) hon).mono fun _ _=>up
end
theorem built36z:Tryz.prog.built 36 []=some #[.pointer none,.pointer none,.pointer none,.pointer none,.pointer none,.pointer none,.pointer none,.pointer none,.slice none 0 0,.slice none 0 0]:=by kernel_rfl
def GS (b p m:Nat) (F0:Nat→Prop) (x:Value) (wx:World):Prop:=∃s F',x=.pointer (some ⟨s,0,none⟩)∧SQ F' wx s p m (fun _=>none) (fun _=>[])∧∀i,F' i→F0 i∨b≤i
theorem GS.later {b p m:Nat} {F0:Nat→Prop} {x:Value} {w w':World} (h:GS b p m F0 x w) (hl:Lat w w'):GS b p m F0 x w':=by
 obtain ⟨s,F',h1,h2,h3⟩:=h
 exact ⟨s,F',h1,h2.later hl,h3⟩
def GD (b r q m:Nat) (x:Value) (wx:World):Prop:=∃d F',x=.pointer (some ⟨d,0,none⟩)∧DQr F' wx d r m (fun _=>none) []∧∀i,F' i→i=r∨i=q∨b≤i
theorem GD.later {b r q m:Nat} {x:Value} {w w':World} (h:GD b r q m x w) (hl:Lat w w'):GD b r q m x w':=by
 obtain ⟨s,F',h1,h2,h3⟩:=h
 exact ⟨s,F',h1,h2.later hl,h3⟩
section
variable {w0 w w2 w3 w5 w6 w7:World} {v kk p r q m s d b:Nat} {P S R D n:Nat→Nat} {F H:Nat→Nat→Prop} {F0:Nat→Prop}
structure Mk1 (w w5:World) (v kk:Nat) (P S R D:Nat→Nat) (p r q m:Nat) (F0:Nat→Prop):Prop where
 blk:Blk w5 v 36 (((wiC kk P S R D).set kk (.pointer (some ⟨p,0,none⟩))).set (4+kk) (.pointer (some ⟨r,0,none⟩)))
 chg:Chg (fun i=>i=v) w w5
 pq:K.PQ F0 w5 p m (fun _=>none)
 rp:K.RP w5 r q m (fun _=>none) K.nB
 f0:∀i,F0 i→w.heap.size≤i∧i≠r∧i≠q
 rq:w.heap.size≤r∧w.heap.size≤q∧r<w5.heap.size∧q<w5.heap.size
theorem Mk1.of (h:WI w0 w v kk P S R D n F H) (hK:kk<2) (b2:Below w.heap.size w w2) (hp:K.PQ F0 w2 p m (fun _=>none)) (hF:∀i,F0 i→w.heap.size≤i) (hpl:w.heap.size≤p) (b3:Below w2.heap.size w2 w3) (hr:K.RP w3 r q m (fun _=>none) K.nB) (hrl:w2.heap.size≤r) (hql:w2.heap.size≤q):
 Mk1 w ((w3.setCell ⟨v,kk,none⟩ (.pointer (some ⟨p,0,none⟩))).setCell ⟨v,4+kk,none⟩ (.pointer (some ⟨r,0,none⟩))) v kk P S R D p r q m F0:=by
 have b3w:Below w.heap.size w w3:=b2.trans (b3.mono b2.size)
 have hb:=(h.blk.later b3w)
 have hvlt:=h.blk.lt
 have hs2:=b2.size
 have c:Chg (fun i=>i=v) w3 ((w3.setCell ⟨v,kk,none⟩ (.pointer (some ⟨p,0,none⟩))).setCell ⟨v,4+kk,none⟩ (.pointer (some ⟨r,0,none⟩))):=(Chg.set ⟨v,kk,none⟩ _ _).trans (Chg.set ⟨v,4+kk,none⟩ _ _) (fun _ _ e=>e)
 refine ⟨(hb.set _ _).set _ _,(Chg.of_below (F:=fun i=>i=v) b3w).trans c (fun _ _ e=>e),(hp.later b3).chg c (fun i hi (e:i=v)=>by have:=hF i hi;omega) (fun (e:p=v)=>by omega),hr.chg c (fun (e:r=v)=>by omega) (fun (e:q=v)=>by omega) (fun i ⟨_,_,_,_,_,e,_⟩=>by cases e),fun i hi=>⟨hF i hi,?_⟩,by omega,by omega,?_,?_⟩
 · have:=hp.lt hi
   omega
 · have:=hr.blk.lt
   simp [World.setCell]
   exact this
 have:=hr.row.lt
 simp [World.setCell]
 exact this
theorem wi_2 (hK:kk<2):(((wiC kk P S R D).set kk (.pointer (some ⟨p,0,none⟩))).set (4+kk) (.pointer (some ⟨r,0,none⟩)))[2+kk]?=some (.pointer none):=by
 rcases two hK with rfl|rfl <;> rfl
theorem wi_6 (hK:kk<2):((((wiC kk P S R D).set kk (.pointer (some ⟨p,0,none⟩))).set (4+kk) (.pointer (some ⟨r,0,none⟩))).set (2+kk) (.pointer (some ⟨s,0,none⟩)))[6+kk]?=some (.pointer none):=by
 rcases two hK with rfl|rfl <;> rfl
theorem wi_0 (hK:kk<2):(wiC kk P S R D)[kk]?=some (.pointer none)∧((wiC kk P S R D).set kk (.pointer (some ⟨p,0,none⟩)))[4+kk]?=some (.pointer none):=by
 rcases two hK with rfl|rfl <;> exact ⟨rfl,rfl⟩
theorem wi_2s (hK:kk<2):(((((wiC kk P S R D).set kk (.pointer (some ⟨p,0,none⟩))).set (4+kk) (.pointer (some ⟨r,0,none⟩))).set (2+kk) (.pointer (some ⟨s,0,none⟩))).set (6+kk) (.pointer (some ⟨d,0,none⟩)))[2+kk]?=some (.pointer (some ⟨s,0,none⟩)):=by
 rcases two hK with rfl|rfl <;> rfl
structure Mk2 (w w6:World) (v kk:Nat) (P S R D:Nat→Nat) (p r q s m:Nat) (F':Nat→Prop):Prop where
 blk:Blk w6 v 36 ((((wiC kk P S R D).set kk (.pointer (some ⟨p,0,none⟩))).set (4+kk) (.pointer (some ⟨r,0,none⟩))).set (2+kk) (.pointer (some ⟨s,0,none⟩)))
 chg:Chg (fun i=>i=v) w w6
 sq:SQ F' w6 s p m (fun _=>none) (fun _=>[])
 rp:K.RP w6 r q m (fun _=>none) K.nB
 f:∀i,F' i→w.heap.size≤i∧i≠r∧i≠q
 rq:w.heap.size≤r∧w.heap.size≤q
theorem Mk1.two (h:Mk1 w w5 v kk P S R D p r q m F0) (hv:v<w.heap.size) (hl:Lat w5 w6) (hg:GS w5.heap.size p m F0 (.pointer (some ⟨s,0,none⟩)) w6):
 ∃F',Mk2 w (w6.setCell ⟨v,2+kk,none⟩ (.pointer (some ⟨s,0,none⟩))) v kk P S R D p r q s m F':=by
 obtain ⟨s',F',e,h1,h2⟩:=hg
 cases e
 have b6:Below w5.heap.size w5 w6:=hl
 have c:Chg (fun i=>i=v) w6 (w6.setCell ⟨v,2+kk,none⟩ (.pointer (some ⟨s,0,none⟩))):=Chg.set ⟨v,2+kk,none⟩ _ _
 have hb6:=h.blk.later b6
 have hrq:=h.rq
 have hs:=h.chg.size
 have hf:∀i,F' i→w.heap.size≤i∧i≠r∧i≠q:=fun i hi=>by
  rcases h2 i hi with h3|h3
  · exact h.f0 i h3
  omega
 refine ⟨F',hb6.set _ _,(h.chg.trans (Chg.of_below (F:=fun i=>i=v) b6) (fun _ _ e=>e)).trans c (fun _ _ e=>e),h1.chg c (h1.blk.1.ne hb6.tg (by decide)) (h1.blk.2.ne hb6.tg (by decide)) (fun i hi (e:i=v)=>by have:=(hf i hi).1;omega),(h.rp.later b6).chg c (fun (e:r=v)=>by omega) (fun (e:q=v)=>by omega) (fun i ⟨_,_,_,_,_,e,_⟩=>by cases e),hf,hrq.1,hrq.2.1⟩
theorem Mk2.add (h:Mk2 w w6 v kk P S R D p r q s m F0) (hI:WI w0 w v kk P S R D n F H) (hK:kk<2) (hm:m≤60) (hl:Lat w6 w7) (hg:GD w6.heap.size r q m (.pointer (some ⟨d,0,none⟩)) w7):
 ∃F H n,WI w0 (w7.setCell ⟨v,6+kk,none⟩ (.pointer (some ⟨d,0,none⟩))) v (kk+1) (upF P kk p) (upF S kk s) (upF R kk r) (upF D kk d) n F H:=by
 obtain ⟨s',H',e,h1,h2⟩:=hg
 cases e
 have b7:Below w6.heap.size w6 w7:=hl
 have c:Chg (fun i=>i=v) w7 (w7.setCell ⟨v,6+kk,none⟩ (.pointer (some ⟨d,0,none⟩))):=Chg.set ⟨v,6+kk,none⟩ _ _
 have hb7:=h.blk.later b7
 have hrq:=h.rq
 have hs:=h.chg.size
 have hvlt:=hI.blk.lt
 have hh:∀i,H' i→w.heap.size≤i:=fun i hi=>by
  rcases h2 i hi with h3|h3|h3 <;> omega
 have hsq:=h.sq.later b7
 refine ⟨_,_,_,hI.add hK hm ((h.chg.trans (Chg.of_below (F:=fun i=>i=v) b7) (fun _ _ e=>e)).trans c (fun _ _ e=>e)) (hb7.set _ _) (hsq.chg c (hsq.blk.1.ne hb7.tg (by decide)) (hsq.blk.2.ne hb7.tg (by decide)) (fun i hi (e:i=v)=>by have:=(h.f i hi).1;omega)) (h1.chg c (fun i hi (e:i=v)=>by have:=hh i hi;omega)) (fun i hi=>(h.f i hi).1) hh (fun i hi hi'=>?_)⟩
 have h3:=h.f i hi
 have h4:=(h.sq.tag hi).1
 rcases h2 i hi' with h5|h5|h5
 · exact h3.2.1 h5
 · exact h3.2.2 h5
 omega
end
theorem plays_any (slots:Int) (a:Option Addr) (len cap:Nat) (l:List Sx8) (W:World) (hl:l.length=len) (hlm:len≤9223372036854775807) (hs:Es W a 8 (l.map fun x=>x.s.cells)) (hst:∀x∈l,StOk W x) (hG:Gv W) (h2:2≤W.heap.size) (hsl:I64 slots):
 Calls Tryz.prog 3 #[.int .i64 slots,.slice a len cap] W fun e w'=>e=.returned (.bool true)∧Below W.heap.size W w':=by
 have HG:=zaa hG
 have HS:=zaa hs
 have HST:=zaa hst
 have HL:=zaa hl
 clear hs hst hl
 go_enter Tryz.func3,Tryz.ntmps3
 go_wp2_with fail
 refine (shownP W hG h2).mono ?_
 rintro e w1 ⟨rfl,b1⟩
 have B1:=zaa b1
 have hsz1:=b1.size
 clear b1 hG
 go_wp2_with (first
  |(refine wpList_build_to rfl 36 #[] rfl [] #[.pointer none,.pointer none,.pointer none,.pointer none,.pointer none,.pointer none,.pointer none,.pointer none,.slice none 0 0,.slice none 0 0] rfl built36z ?_)
  |(refine zac rfl 36 (.tmp 16) rfl [.pointer none,.pointer none,.pointer none,.pointer none,.pointer none,.pointer none,.pointer none,.pointer none,.slice none 0 0,.slice none 0 0] rfl ?_
    intro w2 D2 bl2 hz2
    have HB2:=zaa D2
    have BL2:=zaa bl2
    clear D2 bl2 hz2))
 obtain ⟨vb,hvb⟩:∃vb,w1.heap.size=vb:=⟨_,rfl⟩
 have hI0:Hid (WI W w2 vb 0 (fun _=>0) (fun _=>0) (fun _=>0) (fun _=>0) (fun _=>0) (fun _ _=>False) (fun _ _=>False)):=zaa (by
  subst hvb
  have bb:=B1.out.trans (BL2.out.mono B1.out.size)
  exact ⟨bb,HG.out.later bb,h2,HB2.out,fun k hk=>by omega,fun k hk=>by omega,⟨hsz1,fun k i hk=>by omega,fun k i hk=>by omega⟩,fun k hk=>by omega,fun k j hk=>by omega,fun k j hk=>by omega,fun k j hk=>by omega⟩)
 rw [hvb]
 clear hvb HB2 BL2 B1 hsz1
 go_loopw [7] (fun s7 wx=>∃kk:Nat,s7=.int .i64 (kk:Int)∧kk≤2∧Hid (∃P S R D n F H,WI W wx vb kk P S R D n F H)) (fun s7 _=>2 - nOf s7)
 case atStart=>exact ⟨0,rfl,by omega,zaa ⟨_,_,_,_,_,_,_,hI0.out⟩⟩
 case round=>
  rename World=>wr
  obtain ⟨kk,rfl,hK,hI⟩:=hrel
  clear hI0
  by_cases hlt:kk<2
  · have hltz:(kk:Int)<2:=by omega
    have hkk0:¬(kk:Int)<0:=by omega
    obtain ⟨P,S,R,D,n,F,H,hIw⟩:=hI.out
    have HI:=zaa hIw
    clear hI hIw
    go_wp2_with fail
    refine (zfi _ 60 (by omega) (by omega) (zd2 _) wr).mono ?_
    rintro e w9 ⟨⟨r,hr,rfl⟩,hw9⟩
    rw [hw9]
    clear hw9
    go_wp2_with fail
    rw [show (1+(r:Int))=((1+r:Nat):Int) by omega]
    obtain ⟨m,hm⟩:∃m,1+r=m:=⟨_,rfl⟩
    have hm1:1≤m:=by omega
    have hm60:m≤60:=by omega
    rw [hm]
    clear hm hr
    refine (K.newX m hm1 (by omega) wr).mono ?_
    rintro e w2 ⟨p,F0,rfl,hp,b2,hp1,hF0⟩
    have HP:=zaa (And.intro hp (And.intro hp1 hF0))
    have B2:=zaa b2
    clear hp b2 hp1 hF0
    go_wp2_with fail
    refine (K.newR m hm1 (by omega) w2).mono ?_
    rintro e w3 ⟨r,q,rfl,hr,b3,hr1,hq1⟩
    have hM1:=zaa (Mk1.of HI.out hlt B2.out HP.out.1 HP.out.2.2 HP.out.2.1 b3 hr hr1 hq1)
    have b3w:Below wr.heap.size wr w3:=B2.out.trans (b3.mono B2.out.size)
    have hb3:=HI.out.blk.later b3w
    have cP:w3.cell? ⟨vb,kk,none⟩=some (.pointer none):=by rw [hb3.cell];exact (wi_0 (p:=0) hlt).1
    have cR:w3.cell? ⟨vb,4+kk,none⟩=some (.pointer none):=by rw [hb3.cell];rcases two hlt with rfl|rfl <;> rfl
    have cR2:(w3.setCell ⟨vb,kk,none⟩ (.pointer (some ⟨p,0,none⟩))).cell? ⟨vb,4+kk,none⟩=some (.pointer none):=by rw [(hb3.set kk _).cell];exact (wi_0 (p:=p) hlt).2
    have fP:=hb3.frozen kk
    have fR:=hb3.frozen (4+kk)
    have fR2:=(hb3.set kk (.pointer (some ⟨p,0,none⟩))).frozen (4+kk)
    have hvl:=zaa HI.out.blk.lt
    clear hr b3 hr1 hq1 b3w hb3 HP B2
    go_upto_region 13 with fail
    obtain ⟨w5,hw5⟩:∃w5,(w3.setCell ⟨vb,kk,none⟩ (.pointer (some ⟨p,0,none⟩))).setCell ⟨vb,4+kk,none⟩ (.pointer (some ⟨r,0,none⟩))=w5:=⟨_,rfl⟩
    rw [hw5] at hM1 ⊢
    clear hw5 cP cR cR2 fP fR fR2
    refine pl_r13 vb kk p (GS w5.heap.size p m F0) (fun _ _ _ h hl=>h.later hl) (fun _ _ ⟨s,_,e,_⟩=>⟨s,e⟩) w5 _ _ (by rfl) (by rfl) (by rfl) (by rfl) (by omega) (by omega) (.pointer none) (fun wx hl=>by rw [(hM1.out.blk.later hl).cell];exact wi_2 hlt) (fun wx hl=>(hM1.out.blk.later hl).frozen _) (fun wx hl=>(storeP F0 wx p m (hM1.out.pq.later hl)).mono (by
     rintro e w9 ⟨s,F',rfl,h1,h2,h3,h4⟩
     exact ⟨_,rfl,h2,s,F',rfl,h1,fun i hi=>(h4 i hi).imp (fun e=>e) (fun e=>by have:=Below.size hl;omega)⟩)) ?_
    intros
    rename_i s w6 hl6 hg6
    obtain ⟨F1,hm2⟩:=hM1.out.two hvl.out hl6 hg6
    obtain ⟨w7,hw7⟩:∃w7,w6.setCell ⟨vb,2+kk,none⟩ (.pointer (some ⟨s,0,none⟩))=w7:=⟨_,rfl⟩
    rw [hw7] at hm2 ⊢
    have hM2:=zaa hm2
    clear hw7 hl6 hg6 hm2 hM1
    simp only [Act.put,List.setIfInBounds_toArray,List.set_cons_succ,List.set_cons_zero]
    go_upto_region 14 with fail
    refine pl_r14 vb kk r (GD w7.heap.size r q m) (fun _ _ _ h hl=>h.later hl) (fun _ _ ⟨s,_,e,_⟩=>⟨s,e⟩) w7 _ _ (by rfl) (by rfl) (by rfl) (by rfl) (by omega) (by omega) (.pointer none) (fun wx hl=>by rw [(hM2.out.blk.later hl).cell];exact wi_6 hlt) (fun wx hl=>(hM2.out.blk.later hl).frozen _) (fun wx hl=>(newQr r q m K.nB wx (hM2.out.rp.later hl)).mono (by
     rintro e w9 ⟨d,F',rfl,h1,h2,h3,h4⟩
     exact ⟨_,rfl,h2,d,F',rfl,h1,fun i hi=>(h4 i hi).imp (fun e=>e) (fun e=>e.imp (fun e=>e) (fun e=>by have:=Below.size hl;omega))⟩)) ?_
    intros
    rename_i d w8 hl8 hg8
    obtain ⟨F2,H2,n2,hA⟩:=hM2.out.add HI.out hlt hm60 hl8 hg8
    have hsq:(w8.setCell ⟨vb,6+kk,none⟩ (.pointer (some ⟨d,0,none⟩))).cell? ⟨vb,2+kk,none⟩=some (.pointer (some ⟨s,0,none⟩)):=by
     rw [((hM2.out.blk.later hl8).set (6+kk) _).cell]
     exact wi_2s hlt
    obtain ⟨w10,hw10⟩:∃w10,w8.setCell ⟨vb,6+kk,none⟩ (.pointer (some ⟨d,0,none⟩))=w10:=⟨_,rfl⟩
    rw [hw10] at hA hsq ⊢
    have HA:=zaa hA
    clear hw10 hA hl8 hg8 hM2 hvl
    simp only [Act.put,List.setIfInBounds_toArray,List.set_cons_succ,List.set_cons_zero]
    go_wp2_with fail
    refine ⟨⟨kk+1,by first|rfl|simp,by omega,zaa ⟨_,_,_,_,_,_,_,HA.out⟩⟩,?_⟩
    simp [nOf]
    omega
  have hltz:¬(kk:Int)<2:=by omega
  obtain rfl:kk=2:=by omega
  obtain ⟨P,S,R,D,n,F,H,hIw⟩:=hI.out
  have HX:=zaa hIw.wx
  clear hI hIw
  go_wp2_with fail
  go_loopw [13] (fun s13 wx=>∃i:Nat,s13=.int .i64 (i:Int)∧i≤120∧Hid (WX W vb P S R D n i wx)) (fun s13 _=>120 - nOf s13)
  case atStart=>exact ⟨0,rfl,by omega,HX⟩
  case round=>
   rename World=>wy
   obtain ⟨i,rfl,hi,hX⟩:=hrel
   clear HX
   by_cases hin:i<len∧i<120
   · obtain ⟨hi1,hi2⟩:=hin
     have hi1z:(i:Int)<(len:Int):=by omega
     have hi2z:(i:Int)<120:=by omega
     have hi0:¬(i:Int)<0:=by omega
     obtain ⟨x,hx⟩:∃x,l[i]?=some x:=⟨l[i]'(by have:=HL.out;omega),List.getElem?_eq_getElem _⟩
     obtain ⟨b,off,rfl,hbl,hc⟩:=HS.out (by intro e;rw [List.map_eq_nil_iff] at e;subst e;simp at hx)
     have hb:Below W.heap.size W wy:=by
      obtain ⟨st,su,Z,E,F,H,vl,vc,Ll,Lc,h9,_⟩:=hX.out
      exact h9.bel
     have hcc:∀j u,x.s.cells[j]?=some u→wy.cell? ⟨b,off+i*8+j,none⟩=some u:=fun j u hu=>by
      rw [hb.cell (p:=⟨b,off+i*8+j,none⟩) hbl]
      exact hc i x.s.cells (by simp [List.getElem?_map,hx]) j u hu
     have c0:=hcc 0 _ rfl
     have c1:=hcc 1 _ rfl
     have c2:=hcc 2 _ rfl
     have c3:=hcc 3 _ rfl
     have c4:=hcc 4 _ rfl
     have c5:=hcc 5 _ rfl
     have c6:=hcc 6 _ rfl
     have c7:=hcc 7 _ rfl
     rw [Nat.add_zero] at c0
     have HX9:=zaa hX.out
     have HCALL:=zaa (stepP hX.out (by omega) x (HST.out x (List.mem_of_getElem? hx)))
     clear hcc hc hx hb hX
     unfold pV Stq.cells at HCALL
     go_wp2_with fail
     refine HCALL.out.mono ?_
     rintro e w3 ⟨rfl,h3⟩
     have H3:=zaa h3
     clear h3 c0 c1 c2 c3 c4 c5 c6 c7 HCALL
     go_wp2_with fail
     refine ⟨⟨i+1,by first|rfl|simp,by omega,H3⟩,?_⟩
     simp [nOf]
     omega
   have hLK:Hid (Calls Tryz.prog 11 #[.pointer (some ⟨vb,0,none⟩)] wy fun e w'=>e=.returned (.bool true)∧Below W.heap.size W w'):=zaa (by
    obtain ⟨st,su,Z,E,F,H,vl,vc,Ll,Lc,h9,_⟩:=hX.out
    exact looksP W wy vb P S R D n st su Z E F H vl vc Ll Lc h9)
   by_cases hi1:i<len
   · have hi1z:(i:Int)<(len:Int):=by omega
     have hi2z:¬(i:Int)<120:=by omega
     clear hin hX
     go_wp2_with fail
     refine hLK.out.mono ?_
     rintro e w3 ⟨rfl,b3⟩
     have B3:=zaa b3
     clear b3 hLK
     go_wp2_with fail
     go_ret
     exact ⟨rfl,B3.out⟩
   have hi1z:¬(i:Int)<(len:Int):=by omega
   clear hin hX
   go_wp2_with fail
   refine hLK.out.mono ?_
   rintro e w3 ⟨rfl,b3⟩
   have B3:=zaa b3
   clear b3 hLK
   go_wp2_with fail
   go_ret
   exact ⟨rfl,B3.out⟩
end Go.Proofs.YtlppibigceeimaaGreatDoor
