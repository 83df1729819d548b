import Derived.Test.YtlppibigceeimaaGreatDoorBitM
import Derived.Test.YtlppibigceeimaaGreatDoorAnyM
import Derived.Test.YtlppibigceeimaaGreatDoorPush
import Derived.OneCell
set_option linter.unusedSimpArgs false
set_option linter.unusedVariables false
set_option maxHeartbeats 40000000
set_option maxRecDepth 100000
namespace Go.Proofs.YtlppibigceeimaaGreatDoor
open Go.RowKit
theorem zaa {p:Prop} (h:p):Hid p:=h
structure Chg (F:Nat→Prop) (w w':World):Prop where
 os:w'.os=w.os
 tape:w'.tape=w.tape
 output:w'.output=w.output
 size:w.heap.size≤w'.heap.size
 block:∀k,k<w.heap.size→¬F k→w'.heap[k]?=w.heap[k]?
theorem Chg.refl (F:Nat→Prop) (w:World):Chg F w w:=⟨rfl,rfl,rfl,Nat.le_refl _,fun _ _ _=>rfl⟩
theorem Chg.trans {F G:Nat→Prop} {a b c:World} (h:Chg F a b) (k:Chg G b c) (hs:∀i,i<a.heap.size→G i→F i):Chg F a c:=
 ⟨k.os.trans h.os,k.tape.trans h.tape,k.output.trans h.output,Nat.le_trans h.size k.size,fun i hi hF=>(k.block i (Nat.lt_of_lt_of_le hi h.size) (fun g=>hF (hs i hi g))).trans (h.block i hi hF)⟩
theorem Chg.mono {F G:Nat→Prop} {a b:World} (h:Chg F a b) (hs:∀i,i<a.heap.size→F i→G i):Chg G a b:=
 ⟨h.os,h.tape,h.output,h.size,fun i hi hG=>h.block i hi (fun f=>hG (hs i hi f))⟩
theorem Chg.below {F:Nat→Prop} {B:Nat} {a b:World} (h:Chg F a b) (hB:B≤a.heap.size) (hs:∀i,F i→B≤i):Below B a b:=
 ⟨h.os,h.tape,h.output,h.size,fun i hi=>h.block i (Nat.lt_of_lt_of_le hi hB) (fun f=>by have:=hs i f;omega)⟩
theorem Chg.of_below {F:Nat→Prop} {a b:World} (h:Below a.heap.size a b):Chg F a b:=⟨h.os,h.tape,h.output,h.size,fun i hi _=>h.block i hi⟩
theorem Chg.of_grown {F:Nat→Prop} {a b:World} {row:Option Nat} (h:a.grownBy b row) (hs:∀i,row=some i→F i):Chg F a b:=
 ⟨h.os,h.tape,h.output,h.size,fun i hi hF=>h.block i hi (fun e=>hF (hs i e.symm))⟩
theorem Chg.set (p:Addr) (v:Value) (w:World):Chg (fun i=>i=p.block) w (w.setCell p v):=
 ⟨rfl,rfl,rfl,by simp [World.setCell],fun k _ hk=>heap_setCell_other w p k v (fun e=>hk (by simp [e]))⟩
theorem Chg.drew (F:Nat→Prop) (w:World):Chg F w w.drew:=⟨rfl,rfl,rfl,Nat.le_refl _,fun _ _ _=>rfl⟩
theorem Chg.drewN (F:Nat→Prop) (w:World) (n:Nat):Chg F w (w.drewN n):=Chg.of_below (zah (Below.refl _ _) n)
theorem Chg.blk {F:Nat→Prop} {a b:World} {g:Nat} {ty:TypeId} {l:List Value} (h:Chg F a b) (hB:Blk a g ty l) (hF:¬F g):Blk b g ty l:=by
 unfold Blk at*
 rw [h.block g (Blk.lt hB) hF]
 exact hB
theorem Chg.sl {F:Nat→Prop} {a b:World} {ad:Option Addr} {n:Nat} {l:List Int} (h:Chg F a b) (hS:Sl a ad n l) (hF:∀x,ad=some x→0<n→¬F x.block):Sl b ad n l:=by
 refine ⟨hS.len,hS.byte,fun j hj=>?_⟩
 obtain ⟨x,hx,hc⟩:=hS.cell j hj
 refine ⟨x,hx,?_⟩
 have hlt:=hS.lt x hx (by omega)
 rw [←hc]
 exact World.cell?_of_block (by rw [zc0];exact h.block _ hlt (hF x hx (by omega)))
theorem Chg.owns {F:Nat→Prop} {a b:World} {base:Nat} {e:TypeId} {size:Nat} {v:Value} {n:Nat} {xs:List Value} (h:Chg F a b) (hO:a.ownsRow base e size v n xs) (hF:∀g,v.ownBlock=some g→¬F g):b.ownsRow base e size v n xs:=by
 refine ⟨hO.1,?_⟩
 rcases hO.2 with h0|⟨g,cap,cur,rfl,hb,hh,r⟩
 · exact .inl h0
 refine .inr ⟨g,cap,cur,rfl,hb,?_,r⟩
 rw [h.block g (Array.getElem?_eq_some_iff.1 hh).1 (hF g rfl)]
 exact hh
theorem za0 {w:World} {base:Nat} {e:TypeId} {size:Nat} {v:Value} {n:Nat} {xs:List Value} (hO:w.ownsRow base e size v n xs):∀g,v.ownBlock=some g→g<w.heap.size:=by
 intro g hg
 rcases hO.2 with ⟨rfl,_⟩|⟨g',cap,cur,rfl,hb,hh,r⟩
 · cases hg
 obtain rfl:g'=g:=by simpa [Value.ownBlock] using hg
 exact (Array.getElem?_eq_some_iff.1 hh).1
theorem zgd {w:World} {base:Nat} {e:TypeId} {g n cap:Nat} {R:List Int} (hO:w.ownsRow base e 1 (.slice (some ⟨g,0,none⟩) n cap) n (zae R)) (q:Nat) (x:Int) (hq:q<R.length):
 (w.setCell ⟨g,q,none⟩ (.int .u8 x)).ownsRow base e 1 (.slice (some ⟨g,0,none⟩) n cap) n (zae (R.set q x)):=by
 have hl:=hO.1
 rw [zaf] at hl
 rcases hO.2 with ⟨h0,_⟩|⟨g',cap',cur,hv,hb,hh,hn,hc,hs,ht⟩
 · cases h0
 simp only [Value.slice.injEq,Option.some.injEq,Addr.mk.injEq] at hv
 obtain ⟨⟨rfl,_⟩,_,rfl⟩:=hv
 refine ⟨by rw [zaf,List.length_set];omega,.inr ⟨g,cap,cur.setIfInBounds q (.int .u8 x),rfl,hb,?_,hn,hc,by simpa using hs,?_⟩⟩
 · simp [World.setCell,Array.getElem?_modify,hh]
 rw [Array.toList_setIfInBounds,List.take_set,ht]
 simp [zae,List.map_set]
structure WR (w:World) (p:Nat) (rb:Option Nat) (L:List Bool) (v:Value) (R:List Int):Prop where
 ne:rb≠some p
 own:v.ownBlock=rb
 blk:Blk w p 190 [v,.int .i64 (L.length:Int)]
 row:w.ownsRow 0 5 1 v R.length (zae R)
 byte:Byte R
 rep:Rep R L
 len:L.length≤8*R.length
def WS (w:World) (p:Nat) (rb:Option Nat) (L:List Bool):Prop:=∃(v:Value) (R:List Int),WR w p rb L v R
def fpt (p:Nat) (rb:Option Nat):Nat→Prop:=fun i=>i=p∨rb=some i
def Moved (w:World) (rb rb':Option Nat):Prop:=rb'=rb∨∃g,rb'=some g∧w.heap.size≤g
theorem Moved.trans {a b:World} {r s t:Option Nat} (h:Moved a r s) (k:Moved b s t) (hs:a.heap.size≤b.heap.size):Moved a r t:=by
 rcases k with rfl|⟨g,rfl,hg⟩
 · exact h
 exact .inr ⟨g,rfl,by omega⟩
theorem fpt_moved {w:World} {p:Nat} {rb rb':Option Nat} (h:Moved w rb rb'):∀i,i<w.heap.size→fpt p rb' i→fpt p rb i:=by
 intro i hi hf
 rcases hf with rfl|hf
 · exact .inl rfl
 rcases h with rfl|⟨g,rfl,hg⟩
 · exact .inr hf
 simp at hf
 omega
theorem WR.lt {w:World} {p:Nat} {rb:Option Nat} {L:List Bool} {v:Value} {R:List Int} (h:WR w p rb L v R):∀i,fpt p rb i→i<w.heap.size:=by
 rintro i (rfl|hi)
 · exact h.blk.lt
 have:=h.own
 subst this
 exact za0 h.row i hi
theorem WS.lt {w:World} {p:Nat} {rb:Option Nat} {L:List Bool} (h:WS w p rb L):∀i,fpt p rb i→i<w.heap.size:=by
 obtain ⟨v,R,h⟩:=h
 exact h.lt
theorem WR.chg {F:Nat→Prop} {a b:World} {p:Nat} {rb:Option Nat} {L:List Bool} {v:Value} {R:List Int} (h:WR a p rb L v R) (hc:Chg F a b) (hF:∀i,fpt p rb i→¬F i):WR b p rb L v R:=by
 obtain ⟨h0,h1,h2,h3,h4,h5,h6⟩:=h
 subst h1
 exact ⟨h0,rfl,hc.blk h2 (hF p (.inl rfl)),hc.owns h3 (fun g hg=>hF g (.inr hg)),h4,h5,h6⟩
theorem WS.chg {F:Nat→Prop} {a b:World} {p:Nat} {rb:Option Nat} {L:List Bool} (h:WS a p rb L) (hc:Chg F a b) (hF:∀i,fpt p rb i→¬F i):WS b p rb L:=by
 obtain ⟨v,R,h⟩:=h
 exact ⟨v,R,h.chg hc hF⟩
theorem Chg.alloc (F:Nat→Prop) (w:World) (o:Obj):Chg F w (w.alloc o):=Chg.of_below ((Below.refl _ _).alloc (Nat.le_refl _) _)
theorem Pushed.chg {w w6:World} {v:Value} {g6:Nat} {o:Obj} (hp:Pushed (w.alloc o) w6 v g6):Chg (fun i=>v.ownBlock=some i) w w6∧Moved w v.ownBlock (some g6):=by
 rcases hp with ⟨h1,h2⟩|⟨h1,h2⟩
 · exact ⟨(Chg.alloc _ w o).trans (Chg.of_grown (F:=fun i=>v.ownBlock=some i) h2 (fun i hi=>by rw [h1];exact hi)) (fun i _ hi=>hi),.inl h1.symm⟩
 refine ⟨(Chg.alloc _ w o).trans (Chg.of_grown (F:=fun i=>v.ownBlock=some i) h2 (fun i hi=>by cases hi)) (fun i _ hi=>hi),.inr ⟨g6,rfl,?_⟩⟩
 have:w.heap.size≤(w.alloc o).heap.size:=by simp
 omega
theorem WR.push {w w6:World} {p:Nat} {rb:Option Nat} {L:List Bool} {ad:Option Addr} {n c:Nat} {R:List Int} (h:WR w p rb L (.slice ad n c) R) (hn:R.length=n) {o:Obj} {g6 c6:Nat}
 (ho:w6.ownsRow 0 5 1 (.slice (some ⟨g6,0,none⟩) (n+1) c6) (n+1) (zae R++[.int .u8 0])) (hp:Pushed (w.alloc o) w6 (.slice ad n c) g6):
 Blk w6 p 190 [.slice ad n c,.int .i64 (L.length:Int)]∧WR (w6.setCell ⟨p,0,none⟩ (.slice (some ⟨g6,0,none⟩) (n+1) c6)) p (some g6) L (.slice (some ⟨g6,0,none⟩) (n+1) c6) (R++[0])∧
  Chg (fpt p rb) w (w6.setCell ⟨p,0,none⟩ (.slice (some ⟨g6,0,none⟩) (n+1) c6))∧Moved w rb (some g6):=by
 obtain ⟨h1,h2⟩:=hp.chg
 have hown:=h.own
 rw [hown] at h1 h2
 have hB:Blk w6 p 190 [.slice ad n c,.int .i64 (L.length:Int)]:=h1.blk h.blk (fun e=>h.ne e)
 have hne:g6≠p:=by
  rintro rfl
  rcases h2 with e|⟨g,e,hg⟩
  · exact h.ne e.symm
  have:=h.blk.lt
  simp at e
  omega
 refine ⟨hB,⟨by simpa using hne,rfl,hB.set 0 _,?_,h.byte.append (fun x hx=>by simp at hx;omega),h.rep.pad 1,by have:=h.len;simp;omega⟩,(h1.mono (G:=fpt p rb) (fun i _ hi=>.inr hi)).trans (Chg.set ⟨p,0,none⟩ _ w6) (fun i _ hi=>.inl hi),h2⟩
 have e:zae (R++[0])=zae R++[.int .u8 0]:=by rw [za2];rfl
 rw [e,List.length_append,hn]
 exact ownsRow_setCell_other ho (by simpa [Value.ownBlock] using hne) _
def RS (w:World) (p:Nat) (l:List Int) (t:Nat):Prop:=
 t≤8*l.length∧∃(ad:Option Addr) (c:Nat),Blk w p 201 [.slice ad l.length c,.int .i64 (t:Int)]∧Sl w ad l.length l∧∀x,ad=some x→0<l.length→x.block<p
def Tg (w:World) (i:Nat) (t:TypeId):Prop:=∃cs fr,w.heap[i]?=some (.cells cs t fr)
theorem Tg.one {w:World} {i:Nat} {s t:TypeId} (h:Tg w i s) (k:Tg w i t):s=t:=by
 obtain ⟨c1,f1,h⟩:=h
 obtain ⟨c2,f2,k⟩:=k
 rw [h] at k
 cases k
 rfl
theorem Blk.tg {w:World} {i:Nat} {t:TypeId} {l:List Value} (h:Blk w i t l):Tg w i t:=⟨_,_,h⟩
theorem zab {w:World} {base:Nat} {e:TypeId} {size:Nat} {v:Value} {n:Nat} {xs:List Value} (h:w.ownsRow base e size v n xs):∀i,v.ownBlock=some i→Tg w i e:=by
 intro i hi
 rcases h.2 with ⟨rfl,_⟩|⟨g',cap,cur,rfl,hb,hh,r⟩
 · cases hi
 obtain rfl:g'=i:=by simpa [Value.ownBlock] using hi
 exact ⟨_,_,hh⟩
theorem Tg.lt {w:World} {i:Nat} {t:TypeId} (h:Tg w i t):i<w.heap.size:=by
 obtain ⟨cs,fr,h⟩:=h
 exact (Array.getElem?_eq_some_iff.1 h).1
theorem RS.same {a b:World} {p t:Nat} {l:List Int} (h:RS a p l t) (hc:Chg (fun _=>False) a b):RS b p l t:=by
 obtain ⟨h1,ad,c,h2,h3,h4⟩:=h
 exact ⟨h1,ad,c,hc.blk h2 (fun e=>e),hc.sl h3 (fun _ _ _ e=>e),h4⟩
theorem RS.step {a:World} {p t t2:Nat} {l:List Int} (h:RS a p l t) (h2:t2≤8*l.length):RS (a.setCell ⟨p,1,none⟩ (.int .i64 (t2:Int))) p l t2:=by
 obtain ⟨h1,ad,c,hB,hS,hne⟩:=h
 exact ⟨h2,ad,c,hB.set 1 _,(Chg.set ⟨p,1,none⟩ _ a).sl hS (fun x hx hp e=>Nat.ne_of_lt (hne x hx hp) e),hne⟩
theorem piece_nm {l:List Int} (hb:Byte l) (s ah t y:Nat) (hah:s%8=ah) (ht:t+ah≤8) (hy:(l.getD (s / 8) 0).toNat=y):Nm (y*2 ^ ah%256 / 2 ^ (8 - t)) t (fun i=>bt l (s+i)):=by
 intro j
 have hyb:y<256:=by
  have:=hb.at (s / 8)
  omega
 rw [Nat.testBit_div_two_pow,show (256:Nat)=2 ^ 8 from rfl,Nat.testBit_mod_two_pow,Nat.testBit_mul_two_pow]
 by_cases hj:j<t
 · have a1:decide (j+(8 - t)<8)=true:=by simp;omega
   have a2:decide (ah≤j+(8 - t))=true:=by simp;omega
   have a3:decide (j<t)=true:=by simpa using hj
   rw [a1,a2,a3,Bool.true_and,Bool.true_and,Bool.true_and]
   show _=bt l (s+(t - 1 - j))
   unfold bt
   rw [show (s+(t - 1 - j)) / 8=s / 8 by omega,show 7 - (s+(t - 1 - j))%8=j+(8 - t) - ah by omega,hy]
 have a1:decide (j+(8 - t)<8)=false:=decide_eq_false (by omega)
 have a3:decide (j<t)=false:=decide_eq_false (by omega)
 rw [a1,a3,Bool.false_and,Bool.false_and]
theorem nm_join {V X m t:Nat} {f:Nat→Bool} (h:Nm V m f) (k:Nm X t (fun i=>f (m+i))):Nm (V*2 ^ t ||| X) (m+t) f:=by
 intro j
 rw [Nat.testBit_or,Nat.testBit_mul_two_pow,h (j - t),k j]
 by_cases hj:j<t
 · have a1:decide (t≤j)=false:=by simp;omega
   have a2:decide (j<t)=true:=by simpa using hj
   have a3:decide (j<m+t)=true:=by simp;omega
   rw [a1,a2,a3,Bool.false_and,Bool.false_or,Bool.true_and,Bool.true_and]
   show f (m+(t - 1 - j))=f (m+t - 1 - j)
   congr 1
   omega
 have a1:decide (t≤j)=true:=by simp;omega
 have a2:decide (j<t)=false:=by simp;omega
 rw [a1,a2,Bool.true_and,Bool.false_and,Bool.or_false]
 by_cases hm:j - t<m
 · have a3:decide (j - t<m)=true:=by simpa using hm
   have a4:decide (j<m+t)=true:=by simp;omega
   rw [a3,a4,Bool.true_and,Bool.true_and]
   congr 1
   omega
 have a3:decide (j - t<m)=false:=by simp;omega
 have a4:decide (j<m+t)=false:=by simp;omega
 rw [a3,a4,Bool.false_and,Bool.false_and]
theorem join_eq (V X m t:Nat) (hV:V<2 ^ m) (hX:X<256) (hm:m+t≤64):bits .or .u64 ((V:Int)*2 ^ t%18446744073709551616) (X:Int)=((V*2 ^ t ||| X:Nat):Int):=by
 have h1:V*2 ^ t<2 ^ 64:=by
  have b:V*2 ^ t<2 ^ m*2 ^ t:=Nat.mul_lt_mul_of_pos_right hV (Nat.two_pow_pos _)
  rw [←Nat.pow_add] at b
  exact Nat.lt_of_lt_of_le b (Nat.pow_le_pow_right (by omega) (by omega))
 have e:(V:Int)*2 ^ t%18446744073709551616=((V*2 ^ t:Nat):Int):=by
  have:(V:Int)*2 ^ t=((V*2 ^ t:Nat):Int):=by simp
  rw [this]
  omega
 rw [e,u64_or_nat _ _ (by omega) (by omega)]
theorem shl_eq (y:Int) (ah d:Nat) (hy:0≤y∧y≤255):y*2 ^ ah%256 / 2 ^ d=((y.toNat*2 ^ ah%256 / 2 ^ d:Nat):Int):=by
 have e:y=((y.toNat:Nat):Int):=by omega
 generalize y.toNat=z at*
 subst e
 simp
end Go.Proofs.YtlppibigceeimaaGreatDoor
