import Derived.Test.YtlppibigceeimaaGreatDoorPlB
import Derived.Carry
set_option linter.unusedSimpArgs false
set_option linter.unusedVariables false
set_option maxHeartbeats 40000000
set_option maxRecDepth 100000
namespace Go.Proofs.YtlppibigceeimaaGreatDoor.K
open Go.RowKit
abbrev Sx:=Nat→Option (ByteArray×ByteArray)
def leV (o d:ByteArray):Value:=.agg #[.string o,.string d]
def uV:Value:=.agg #[]
def upS (st:Sx) (i:Nat) (x:Option (ByteArray×ByteArray)):Sx:=fun j=>if j=i then x else st j
def tkL (st:Sx) (n:Nat):List (Int×Value):=(List.range n).filterMap fun i=>(st i).map fun x=>((i:Int),leV x.1 x.2)
def setL (st:Sx) (n:Nat) (o:ByteArray):List (Int×Value):=(List.range n).filterMap fun i=>match st i with
 |some x=>if x.1=o then some ((i:Int),uV) else none
 |none=>none
theorem mem_tkL {st:Sx} {n:Nat} {k:Int} {v:Value}:(k,v)∈tkL st n↔∃i,i<n∧∃x,st i=some x∧k=(i:Int)∧v=leV x.1 x.2:=by
 unfold tkL
 rw [List.mem_filterMap]
 constructor
 · rintro ⟨i,hi,h⟩
   cases e:st i with
   |none=>rw [e] at h;cases h
   |some x=>
    rw [e] at h
    simp only [Option.map_some,Option.some.injEq,Prod.mk.injEq] at h
    exact ⟨i,List.mem_range.1 hi,x,e,h.1.symm,h.2.symm⟩
 rintro ⟨i,hi,x,e,rfl,rfl⟩
 exact ⟨i,List.mem_range.2 hi,by rw [e];rfl⟩
theorem mem_setL {st:Sx} {n:Nat} {o:ByteArray} {k:Int} {v:Value}:(k,v)∈setL st n o↔∃i,i<n∧(∃d,st i=some (o,d))∧k=(i:Int)∧v=uV:=by
 unfold setL
 rw [List.mem_filterMap]
 constructor
 · rintro ⟨i,hi,h⟩
   cases e:st i with
   |none=>rw [e] at h;cases h
   |some x=>
    rw [e] at h
    simp only at h
    split at h
    · next e1=>
      simp only [Option.some.injEq,Prod.mk.injEq] at h
      exact ⟨i,List.mem_range.1 hi,⟨x.2,by rw [e,←e1]⟩,h.1.symm,h.2.symm⟩
    cases h
 rintro ⟨i,hi,⟨d,e⟩,rfl,rfl⟩
 exact ⟨i,List.mem_range.2 hi,by rw [e];simp⟩
theorem mem_rm {l:List (Int×Value)} {k:Int} {p:Int×Value}:p∈rm l k↔p∈l∧¬p.1=k:=by
 unfold rm
 simp
theorem zax {l:List (Int×Value)} (h:l.Pairwise (fun p q=>¬p.1=q.1)):l.Nodup:=h.imp (fun h e=>h (by rw [e]))
theorem zea (n:Nat) (f:Nat→Option (Int×Value)) (hf:∀i p,f i=some p→p.1=(i:Int)):((List.range n).filterMap f).Pairwise (fun p q=>¬p.1=q.1):=by
 rw [List.pairwise_filterMap]
 have:(List.range n).Pairwise (fun a b=>a<b):=List.pairwise_lt_range
 refine this.imp (fun {a b} hab p hp q hq e=>?_)
 rw [hf a p hp,hf b q hq] at e
 omega
theorem tk_pw (st:Sx) (n:Nat):(tkL st n).Pairwise (fun p q=>¬p.1=q.1):=zea n _ (fun i p h=>by
 cases e:st i with
 |none=>rw [e] at h;cases h
 |some x=>rw [e] at h;simp only [Option.map_some,Option.some.injEq] at h;rw [←h])
theorem set_pw (st:Sx) (n:Nat) (o:ByteArray):(setL st n o).Pairwise (fun p q=>¬p.1=q.1):=zea n _ (fun i p h=>by
 cases e:st i with
 |none=>rw [e] at h;cases h
 |some x=>
  rw [e] at h
  simp only at h
  split at h
  · simp only [Option.some.injEq] at h;rw [←h]
  cases h)
theorem zf6 {l:List (Int×Value)} (h:l.Pairwise (fun p q=>¬p.1=q.1)) (k:Int):(rm l k).Nodup:=zax (h.filter _)
theorem zfy {l:List (Int×Value)} (h:l.Pairwise (fun p q=>¬p.1=q.1)) (k:Int) (v:Value):((k,v) :: rm l k).Nodup:=
 List.nodup_cons.2 ⟨fun hm=>(mem_rm.1 hm).2 rfl,zf6 h k⟩
theorem tk_add (st:Sx) (n i:Nat) (o d:ByteArray) (hi:i<n):(((i:Int),leV o d) :: rm (tkL st n) (i:Int)).Perm (tkL (upS st i (some (o,d))) n):=by
 rw [List.perm_ext_iff_of_nodup (zfy (tk_pw st n) _ _) (zax (tk_pw _ n))]
 rintro ⟨k,v⟩
 rw [List.mem_cons,mem_rm,mem_tkL,mem_tkL]
 constructor
 · rintro (e|⟨⟨j,hj,x,e,rfl,rfl⟩,hne⟩)
   · simp only [Prod.mk.injEq] at e
     exact ⟨i,hi,(o,d),by simp [upS],e.1,e.2⟩
   simp only at hne
   exact ⟨j,hj,x,by unfold upS;rw [if_neg (by omega)];exact e,rfl,rfl⟩
 rintro ⟨j,hj,x,e,rfl,rfl⟩
 unfold upS at e
 split at e
 · next h=>
   subst h
   cases e
   exact .inl rfl
 next h=>exact .inr ⟨⟨j,hj,x,e,rfl,rfl⟩,by simp only;omega⟩
theorem tk_rm (st:Sx) (n i:Nat):(rm (tkL st n) (i:Int)).Perm (tkL (upS st i none) n):=by
 rw [List.perm_ext_iff_of_nodup (zf6 (tk_pw st n) _) (zax (tk_pw _ n))]
 rintro ⟨k,v⟩
 rw [mem_rm,mem_tkL,mem_tkL]
 constructor
 · rintro ⟨⟨j,hj,x,e,rfl,rfl⟩,hne⟩
   simp only at hne
   exact ⟨j,hj,x,by unfold upS;rw [if_neg (by omega)];exact e,rfl,rfl⟩
 rintro ⟨j,hj,x,e,rfl,rfl⟩
 unfold upS at e
 split at e
 · cases e
 next h=>exact ⟨⟨j,hj,x,e,rfl,rfl⟩,by simp only;omega⟩
theorem set_add (st:Sx) (n i:Nat) (o d:ByteArray) (hi:i<n):(((i:Int),uV) :: rm (setL st n o) (i:Int)).Perm (setL (upS st i (some (o,d))) n o):=by
 rw [List.perm_ext_iff_of_nodup (zfy (set_pw st n o) _ _) (zax (set_pw _ n o))]
 rintro ⟨k,v⟩
 rw [List.mem_cons,mem_rm,mem_setL,mem_setL]
 constructor
 · rintro (e|⟨⟨j,hj,⟨x,e⟩,rfl,rfl⟩,hne⟩)
   · simp only [Prod.mk.injEq] at e
     exact ⟨i,hi,⟨d,by simp [upS]⟩,e.1,e.2⟩
   simp only at hne
   exact ⟨j,hj,⟨x,by unfold upS;rw [if_neg (by omega)];exact e⟩,rfl,rfl⟩
 rintro ⟨j,hj,⟨x,e⟩,rfl,rfl⟩
 unfold upS at e
 split at e
 · next h=>
   subst h
   exact .inl rfl
 next h=>exact .inr ⟨⟨j,hj,⟨x,e⟩,rfl,rfl⟩,by simp only;omega⟩
theorem zdm (st:Sx) (n i:Nat) (o o' d:ByteArray) (hne:¬o'=o) (hs:st i=none):(setL st n o').Perm (setL (upS st i (some (o,d))) n o'):=by
 rw [List.perm_ext_iff_of_nodup (zax (set_pw st n o')) (zax (set_pw _ n o'))]
 rintro ⟨k,v⟩
 rw [mem_setL,mem_setL]
 constructor
 · rintro ⟨j,hj,⟨x,e⟩,rfl,rfl⟩
   refine ⟨j,hj,⟨x,?_⟩,rfl,rfl⟩
   unfold upS
   split
   · next h=>rw [h,hs] at e;cases e
   exact e
 rintro ⟨j,hj,⟨x,e⟩,rfl,rfl⟩
 unfold upS at e
 split at e
 · simp only [Option.some.injEq,Prod.mk.injEq] at e
   exact absurd e.1.symm hne
 exact ⟨j,hj,⟨x,e⟩,rfl,rfl⟩
theorem set_rm (st:Sx) (n i:Nat) (o:ByteArray):(rm (setL st n o) (i:Int)).Perm (setL (upS st i none) n o):=by
 rw [List.perm_ext_iff_of_nodup (zf6 (set_pw st n o) _) (zax (set_pw _ n o))]
 rintro ⟨k,v⟩
 rw [mem_rm,mem_setL,mem_setL]
 constructor
 · rintro ⟨⟨j,hj,x,rfl,rfl⟩,hne⟩
   simp only at hne
   exact ⟨j,hj,by unfold upS;rw [if_neg (by omega)];exact x,rfl,rfl⟩
 rintro ⟨j,hj,⟨x,e⟩,rfl,rfl⟩
 unfold upS at e
 split at e
 · cases e
 next h=>exact ⟨⟨j,hj,⟨x,e⟩,rfl,rfl⟩,by simp only;omega⟩
theorem al_tk {st:Sx} {n i:Nat} (hi:i<n):al (tkL st n) (i:Int)=(st i).map fun x=>leV x.1 x.2:=by
 cases e:st i with
 |some x=>exact zdx (tk_pw st n) (mem_tkL.2 ⟨i,hi,x,e,rfl,rfl⟩)
 |none=>
  refine zdh (fun p hp hk=>?_)
  obtain ⟨k,v⟩:=p
  obtain ⟨j,hj,x,ex,rfl,rfl⟩:=mem_tkL.1 hp
  simp only at hk
  obtain rfl:j=i:=by omega
  rw [e] at ex
  cases ex
theorem al_tk_off {st:Sx} {n:Nat} {k:Int} (hk:k<0∨(n:Int)≤k):al (tkL st n) k=none:=by
 refine zdh (fun p hp e=>?_)
 obtain ⟨k',v⟩:=p
 obtain ⟨j,hj,x,ex,rfl,rfl⟩:=mem_tkL.1 hp
 simp only at e
 omega
def K3:Int→Value:=Value.int .i64
structure Pl (w:World) (p n g tb ob:Nat) (ow:ByteArray→Option Nat) (st:Sx):Prop where
 blk:Blk w p 69 [.int .i64 (n:Int),.slice (some ⟨g,0,none⟩) ((n+63) / 64) ((n+63) / 64),.map (some tb),.map (some ob)]
 n1:1≤n∧n≤65536
 fr:Fr w g ((n+63) / 64) (fun j=>decide (j<n) && (st j).isNone)
 tk:Ml K3 w tb (tkL st n)
 own:∃lo:List (ByteArray×Value),Ml Value.string w ob lo∧∀o,al lo o=(ow o).map fun sb=>Value.map (some sb)
 set:∀o sb,ow o=some sb→Ml K3 w sb (setL st n o)∧setL st n o≠[]∧sb≠tb∧sb≠ob
 non:∀o,ow o=none→setL st n o=[]
 inj:∀o o' sb,ow o=some sb→ow o'=some sb→o=o'
 ne:tb≠ob
 fin:∀i,n≤i→st i=none
def PF (g tb ob:Nat) (ow:ByteArray→Option Nat):Nat→Prop:=fun i=>i=g∨i=tb∨i=ob∨∃o,ow o=some i
theorem Pl.later {w w':World} {p n g tb ob:Nat} {ow:ByteArray→Option Nat} {st:Sx} (h:Pl w p n g tb ob ow st) (hb:Below w.heap.size w w'):Pl w' p n g tb ob ow st:=by
 obtain ⟨lo,h1,h2⟩:=h.own
 exact ⟨h.blk.later hb,h.n1,h.fr.later hb,h.tk.later hb,⟨lo,h1.later hb,h2⟩,fun o sb e=>⟨(h.set o sb e).1.later hb,(h.set o sb e).2⟩,h.non,h.inj,h.ne,h.fin⟩
theorem built63 (n:Int) (g m tb ob:Nat):Tryz.prog.built 69 [(0,.int .i64 n),(1,.slice (some ⟨g,0,none⟩) m m),(2,.map (some tb)),(3,.map (some ob))]=some #[.int .i64 n,.slice (some ⟨g,0,none⟩) m m,.map (some tb),.map (some ob)]:=by kernel_rfl
theorem newP (n:Nat) (h1:1≤n) (h2:n≤65536) (w:World):Calls Tryz.prog 6 #[.int .i64 (n:Int)] w fun e w'=>∃p g tb ob,e=.returned (.tuple #[.pointer (some ⟨p,0,none⟩),.int .i64 0])∧Pl w' p n g tb ob (fun _=>none) (fun _=>none)∧Below w.heap.size w w'∧w.heap.size≤p∧∀i,PF g tb ob (fun _=>none) i→w.heap.size≤i:=by
 have hmm:=@run_makeMap Tryz.prog
 have HR:=zaa (rowOfP n h1 h2 w)
 obtain ⟨m,hm⟩:∃m,(n+63) / 64=m:=⟨_,rfl⟩
 rw [hm] at HR
 have HM:=zaa hm
 clear hm
 go_enter Tryz.func6,Tryz.ntmps6
 go_wp2_with (refine HR.out.mono ?_;clear HR;rintro e w1 ⟨rfl,f1,b1⟩;have F1:=zaa f1;have B1:=zaa b1;clear f1 b1)
 go_ret2
 have e1:Below w1.heap.size w1 (((w1.alloc (.map #[] 0)).alloc (.map #[] 0)).alloc (.cells #[.int .i64 (n:Int),.slice (some ⟨w.heap.size,0,none⟩) m m,.map (some w1.heap.size),.map (some (w1.heap.size+1))] 69)):=((((Below.refl _ _).alloc (Nat.le_refl _) _)).alloc (by simp) _).alloc (by simp;omega) _
 have t1:Ml K3 (w1.alloc (.map #[] 0)) w1.heap.size []:=Ml.made K3 w1
 have t2:Ml Value.string ((w1.alloc (.map #[] 0)).alloc (.map #[] 0)) (w1.heap.size+1) []:=by
  have:=Ml.made Value.string (w1.alloc (.map #[] 0))
  rw [World.size_alloc] at this
  exact this
 have t3:=Blk.new ((w1.alloc (.map #[] 0)).alloc (.map #[] 0)) 69 [.int .i64 (n:Int),.slice (some ⟨w.heap.size,0,none⟩) m m,.map (some w1.heap.size),.map (some (w1.heap.size+1))]
 rw [World.size_alloc,World.size_alloc] at t3
 have hz:=B1.out.size
 refine ⟨w1.heap.size+1+1,w.heap.size,w1.heap.size,w1.heap.size+1,rfl,⟨by rw [HM.out];exact t3,⟨h1,h2⟩,?_,?_,⟨[],t2.later ((Below.refl _ _).alloc (Nat.le_refl _) _),fun o=>rfl⟩,fun o sb e=>(by cases e),fun o _=>?_,fun o o' sb e=>(by cases e),by omega,fun i _=>rfl⟩,B1.out.trans (e1.mono hz),by omega,?_⟩
 · rw [HM.out]
   exact (F1.out.later e1).mono (fun j _=>by simp)
 · have e0:tkL (fun _=>none) n=[]:=by
    rw [List.eq_nil_iff_forall_not_mem]
    rintro ⟨k,v⟩ hm
    obtain ⟨i,_,x,e,_⟩:=mem_tkL.1 hm
    cases e
   rw [e0]
   exact (t1.later ((Below.refl _ _).alloc (Nat.le_refl _) _)).later ((Below.refl _ _).alloc (Nat.le_refl _) _)
 · rw [List.eq_nil_iff_forall_not_mem]
   rintro ⟨k,v⟩ hm
   obtain ⟨i,_,⟨x,e⟩,_⟩:=mem_setL.1 hm
   cases e
 rintro i (rfl|rfl|rfl|⟨o,e⟩)
 · exact Nat.le_refl _
 · exact hz
 · omega
 cases e
end Go.Proofs.YtlppibigceeimaaGreatDoor.K
