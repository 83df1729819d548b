import Derived.Test.YtlppibigceeimaaGreatDoorPlD
import Derived.Laws.MakeOwn
set_option linter.unusedSimpArgs false
set_option linter.unusedVariables false
set_option maxHeartbeats 40000000
set_option maxRecDepth 100000
namespace Go.Proofs.YtlppibigceeimaaGreatDoor.K
open Go.RowKit
theorem info_parts {P:Program} {ty:TypeId} {z:Option Value} {s b:Nat} (h:(P.info? ty).map (fun i=>(i.zero,i.size,i.bytes))=some (z,s,b)):∃i,P.info? ty=some i∧i.zero=z∧i.size=s∧i.bytes=b:=by
 cases e:P.info? ty with
 |none=>rw [e] at h;cases h
 |some i=>
  rw [e] at h
  simp at h
  exact ⟨i,rfl,h.1,h.2.1,h.2.2⟩
theorem wpList_make_any {P:Program} (w:World) {ops:Array Oper} {rest:List Oper} {o:Oper} {a:Act} {Q:Exit→Act→World→Prop}
 (hg:o.guard=none) (l c:Operand) (t:TypeId) (hop:o.op=Op.makeSlice t l c) (e:TypeId) (z:Value) (s b:Nat) (h1:P.underlying t=some (.slice e)) (h2:(P.info? e).map (fun i=>(i.zero,i.size,i.bytes))=some (some z,s,b))
 (n:Nat) (hl:a.eval l=.int .i64 (n:Int)) (hc:a.eval c=.int .i64 (n:Int)) (hb:b*n≤281474976710656) (hn:n≤281474976710656)
 (hK:∀w',Blk w' w.heap.size e (madeCells z.cells (n*s)).toList→w'.heap.size=w.heap.size+1→Below w.heap.size w w'→wpList P ops Q rest (a.put o.dst (.slice (some ⟨w.heap.size,0,none⟩) n n)) w'):wpList P ops Q (o :: rest) a w:=by
 obtain ⟨i,hi,hz,hs,hby⟩:=info_parts h2
 refine wpList_plain hg fun K hK'=>?_
 have hr:=run_make (P:=P) w t e i z h1 hi hz .i64 .i64 (n:Int) (n:Int) (by omega) (by omega) (by rw [hby,←Int.natCast_mul];omega) (by omega)
 rw [hs] at hr
 simp only [Int.toNat_natCast] at hr
 unfold Oper.wp
 simp [execOp,hop,hl,hc,hr,Result.andThen]
 refine hK' _ _ (hK _ ?_ (by simp) ((Below.refl _ _).alloc (Nat.le_refl _) _))
 unfold Blk
 rw [heap_alloc_new w]
def rcV (st:Sx) (B:Nat→Value) (j:Nat):Value:=
 if j%3=0 then .bool (st (j / 3)).isSome else if j%3=1 then .string (((st (j / 3)).map (·.1)).getD ⟨#[]⟩) else match st (j / 3) with
 |none=>.slice none 0 0
 |some _=>B (j / 3)
def rL (n:Nat) (st:Sx) (B:Nat→Value):List Value:=(List.range (n*3)).map (rcV st B)
def upN (B:Nat→Value) (i:Nat) (v:Value):Nat→Value:=fun j=>if j=i then v else B j
theorem rL_at {n i r:Nat} (st:Sx) (B:Nat→Value) (hi:i<n) (hr:r<3):(rL n st B)[i*3+r]?=some (rcV st B (i*3+r)):=by
 unfold rL
 rw [List.getElem?_map,List.getElem?_range (by omega)]
 rfl
theorem rcV0 (st:Sx) (B:Nat→Value) (i:Nat):rcV st B (i*3)=.bool (st i).isSome:=by
 unfold rcV
 rw [show i*3 / 3=i by omega,if_pos (by omega)]
theorem rcV1 (st:Sx) (B:Nat→Value) (i:Nat):rcV st B (i*3+1)=.string (((st i).map (·.1)).getD ⟨#[]⟩):=by
 unfold rcV
 rw [show (i*3+1) / 3=i by omega,if_neg (by omega),if_pos (by omega)]
theorem rcV2 (st:Sx) (B:Nat→Value) (i:Nat) {x:ByteArray×ByteArray} (h:st i=some x):rcV st B (i*3+2)=B i:=by
 unfold rcV
 rw [show (i*3+2) / 3=i by omega,if_neg (by omega),if_neg (by omega),h]
theorem rcV_off {st st':Sx} {B B':Nat→Value} {j:Nat} (h1:st' (j / 3)=st (j / 3)) (h2:B' (j / 3)=B (j / 3)):rcV st' B' j=rcV st B j:=by
 unfold rcV
 rw [h1,h2]
theorem rL_set (n i:Nat) (st:Sx) (B:Nat→Value) (x:Option (ByteArray×ByteArray)) (v:Value) (hv:x=none→v=.slice none 0 0) (hi:i<n):
 ((((rL n st B).set (i*3) (.bool x.isSome)).set (i*3+1) (.string ((x.map (·.1)).getD ⟨#[]⟩))).set (i*3+2) v)=rL n (upS st i x) (upN B i v):=by
 apply List.ext_getElem?
 intro j
 unfold rL
 simp only [List.getElem?_set,List.length_set,List.length_map,List.length_range,List.getElem?_map]
 have k0:i*3<n*3:=by omega
 have k1:i*3+1<n*3:=by omega
 have k2:i*3+2<n*3:=by omega
 simp only [k0,k1,k2,if_true]
 have e2:∀j,j / 3=i→upS st i x (j / 3)=x:=fun j h=>if_pos h
 have e3:∀j,j / 3=i→upN B i v (j / 3)=v:=fun j h=>if_pos h
 by_cases hj:j<n*3
 · rw [List.getElem?_range hj]
   simp only [Option.map_some]
   by_cases h2:i*3+2=j
   · rw [if_pos h2]
     unfold rcV
     rw [e2 j (by omega),e3 j (by omega),if_neg (by omega),if_neg (by omega)]
     cases x with
     |none=>rw [hv rfl]
     |some y=>rfl
   rw [if_neg h2]
   by_cases h1:i*3+1=j
   · rw [if_pos h1]
     unfold rcV
     rw [e2 j (by omega),if_neg (by omega),if_pos (by omega)]
   rw [if_neg h1]
   by_cases h0:i*3=j
   · rw [if_pos h0]
     unfold rcV
     rw [e2 j (by omega),if_pos (by omega)]
   rw [if_neg h0]
   have hne:¬j / 3=i:=by omega
   rw [rcV_off (st:=st) (B:=B) (st':=upS st i x) (B':=upN B i v) (if_neg hne) (if_neg hne)]
 rw [List.getElem?_eq_none (by simp;omega),if_neg (by omega),if_neg (by omega),if_neg (by omega)]
 rfl
theorem _root_.Go.Proofs.YtlppibigceeimaaGreatDoor.Tg.ne {w:World} {i j:Nat} {s t:TypeId} (h:Tg w i s) (k:Tg w j t) (hst:¬s=t):¬i=j:=fun e=>hst (h.one (e▸k))
theorem _root_.Go.Proofs.YtlppibigceeimaaGreatDoor.Tg.chg {F:Nat→Prop} {w w':World} {i:Nat} {t:TypeId} (h:Tg w i t) (k:Chg F w w') (hF:¬F i):Tg w' i t:=by
 have hl:=h.lt
 obtain ⟨cs,fr,e⟩:=h
 exact ⟨cs,fr,by rw [k.block i hl hF];exact e⟩
structure RP (w:World) (r q n:Nat) (st:Sx) (B:Nat→Value):Prop where
 blk:Blk w r 72 [.slice (some ⟨q,0,none⟩) n n]
 row:Blk w q 116 (rL n st B)
 n1:1≤n∧n≤65536
 fin:∀i,n≤i→st i=none
 byt:∀i o d,st i=some (o,d)→∃ad c,B i=.slice ad d.size c∧Sl w ad d.size (bts d)∧(ad=none→d.size=0∧c=0)∧(∀x,ad=some x→0<d.size→Tg w x.block 5)
def RG (st:Sx) (B:Nat→Value):Nat→Prop:=fun k=>∃i o d ad c,st i=some (o,d)∧B i=.slice (some ad) d.size c∧0<d.size∧ad.block=k
theorem RP.chg {F:Nat→Prop} {w w':World} {r q n:Nat} {st:Sx} {B:Nat→Value} (h:RP w r q n st B) (k:Chg F w w') (hr:¬F r) (hq:¬F q) (hb:∀i,RG st B i→¬F i):RP w' r q n st B:=
 ⟨k.blk h.blk hr,k.blk h.row hq,h.n1,h.fin,fun i o d hi=>by
  obtain ⟨ad,c,e1,e2,e3,e4⟩:=h.byt i o d hi
  exact ⟨ad,c,e1,k.sl e2 (fun x hx h0=>hb x.block ⟨i,o,d,x,c,hi,by rw [e1,hx],h0,rfl⟩),e3,fun x hx h0=>(e4 x hx h0).chg k (hb x.block ⟨i,o,d,x,c,hi,by rw [e1,hx],h0,rfl⟩)⟩⟩
theorem RP.later {w w':World} {r q n:Nat} {st:Sx} {B:Nat→Value} (h:RP w r q n st B) (k:Below w.heap.size w w'):RP w' r q n st B:=
 h.chg (F:=fun _=>False) (Chg.of_below k) (fun h=>h) (fun h=>h) (fun _ _ h=>h)
theorem RP.ne {w:World} {r q n:Nat} {st:Sx} {B:Nat→Value} (h:RP w r q n st B):¬r=q:=h.blk.tg.ne h.row.tg (by decide)
theorem RG.tg {w:World} {r q n:Nat} {st:Sx} {B:Nat→Value} (h:RP w r q n st B) {i:Nat} (hi:RG st B i):Tg w i 5:=by
 obtain ⟨j,o,d,ad,c,e1,e2,e3,rfl⟩:=hi
 obtain ⟨ad',c',e4,_,_,e5⟩:=h.byt j o d e1
 rw [e2] at e4
 simp only [Value.slice.injEq] at e4
 exact e5 ad e4.1.symm e3
theorem RG.lt {w:World} {r q n:Nat} {st:Sx} {B:Nat→Value} (h:RP w r q n st B) {i:Nat} (hi:RG st B i):i<w.heap.size:=(RG.tg h hi).lt
theorem RP.rgq {w:World} {r q n:Nat} {st:Sx} {B:Nat→Value} (h:RP w r q n st B):∀i,RG st B i→¬i=q:=fun i hi=>(RG.tg h hi).ne h.row.tg (by decide)
theorem RP.put {w w':World} {r q n i:Nat} {st:Sx} {B:Nat→Value} (h:RP w r q n st B) (x:Option (ByteArray×ByteArray)) (v:Value) (hi:i<n) (hk:Chg (fun j=>j=q) w w') (hr:Blk w' q 116 (rL n (upS st i x) (upN B i v)))
 (hx:∀o d,x=some (o,d)→∃ad c,v=.slice ad d.size c∧Sl w' ad d.size (bts d)∧(ad=none→d.size=0∧c=0)∧(∀x,ad=some x→0<d.size→Tg w' x.block 5)):RP w' r q n (upS st i x) (upN B i v):=by
 refine ⟨hk.blk h.blk h.ne,hr,h.n1,fun j hj=>?_,fun j o d hj=>?_⟩
 · unfold upS
   rw [if_neg (by omega)]
   exact h.fin j hj
 unfold upS at hj
 unfold upN
 by_cases e:j=i
 · rw [if_pos e] at hj ⊢
   exact hx o d hj
 rw [if_neg e] at hj ⊢
 obtain ⟨ad,c,e1,e2,e3,e4⟩:=h.byt j o d hj
 exact ⟨ad,c,e1,hk.sl e2 (fun y hy h0=>h.rgq y.block ⟨j,o,d,y,c,hj,by rw [e1,hy],h0,rfl⟩),e3,fun y hy h0=>(e4 y hy h0).chg hk (h.rgq y.block ⟨j,o,d,y,c,hj,by rw [e1,hy],h0,rfl⟩)⟩
theorem info85:(Tryz.prog.info? 116).map (fun i=>(i.zero,i.size,i.bytes))=some (some (.agg #[.bool false,.string ⟨#[]⟩,.slice none 0 0]),3,48):=by kernel_rfl
def nB:Nat→Value:=fun _=>.slice none 0 0
theorem made_rL (n:Nat):(madeCells (Value.agg #[.bool false,.string ⟨#[]⟩,.slice none 0 0]).cells (n*3)).toList=rL n (fun _=>none) nB:=by
 apply List.ext_getElem?
 intro j
 unfold rL madeCells
 simp only [Value.cells,Array.toList_map,List.getElem?_map,Array.toList_range]
 by_cases hj:j<n*3
 · rw [List.getElem?_range hj]
   simp only [Option.map_some,Option.some.injEq]
   unfold rcV
   rcases (show j%3=0∨j%3=1∨j%3=2 by omega) with h|h|h
   · rw [if_pos h];simp [h]
   · rw [if_neg (by omega),if_pos h];simp [h]
   rw [if_neg (by omega),if_neg (by omega)];simp [h]
 rw [List.getElem?_eq_none (by simp;omega)]
 rfl
theorem newR (n:Nat) (h1:1≤n) (h2:n≤65536) (w:World):Calls Tryz.prog 7 #[.int .i64 (n:Int)] w fun e w'=>∃r q,e=.returned (.tuple #[.pointer (some ⟨r,0,none⟩),.int .i64 0])∧RP w' r q n (fun _=>none) nB∧Below w.heap.size w w'∧w.heap.size≤r∧w.heap.size≤q:=by
 have hb66:∀g:Nat,Tryz.prog.built 72 [(0,.slice (some ⟨g,0,none⟩) n n)]=some #[.slice (some ⟨g,0,none⟩) n n]:=fun g=>by kernel_rfl
 go_enter Tryz.func7,Tryz.ntmps7
 go_wp2_with (refine wpList_make_any _ rfl (.tmp 10) (.tmp 10) 70 rfl 116 _ 3 48 Tryz.underlying70 info85 n rfl rfl (by omega) (by omega) ?_;intro w1 hB hz bl;rw [made_rL] at hB;have HB:=zaa hB;have HZ:=zaa hz;have BL:=zaa bl;clear hB hz bl)
 go_ret2
 have b2:Below w1.heap.size w1 (w1.alloc (.cells #[.slice (some ⟨w.heap.size,0,none⟩) n n] 72)):=(Below.refl _ _).alloc (Nat.le_refl _) _
 refine ⟨w1.heap.size,w.heap.size,rfl,⟨Blk.new w1 72 [_],HB.out.later b2,⟨h1,h2⟩,fun _ _=>rfl,fun i o d h=>by cases h⟩,BL.out.trans (b2.mono BL.out.size),BL.out.size,Nat.le_refl _⟩
theorem RP.c0 {w:World} {r q n:Nat} {st:Sx} {B:Nat→Value} (h:RP w r q n st B):w.cell? ⟨r,0,none⟩=some (.slice (some ⟨q,0,none⟩) n n):=h.blk.cell 0
theorem RP.k0 {w:World} {r q n i:Nat} {st:Sx} {B:Nat→Value} (h:RP w r q n st B) (hi:i<n) {b:Bool} (hb:(st i).isSome=b):w.cell? ⟨q,i*3,none⟩=some (.bool b):=by
 rw [h.row.cell,←Nat.add_zero (i*3),rL_at st B hi (by omega),Nat.add_zero,rcV0,hb]
theorem RP.k1 {w:World} {r q n i:Nat} {st:Sx} {B:Nat→Value} (h:RP w r q n st B) (hi:i<n):w.cell? ⟨q,i*3+1,none⟩=some (.string (((st i).map (·.1)).getD ⟨#[]⟩)):=by
 rw [h.row.cell,rL_at st B hi (by omega),rcV1]
theorem RP.k2 {w:World} {r q n i:Nat} {st:Sx} {B:Nat→Value} (h:RP w r q n st B) (hi:i<n) {x:ByteArray×ByteArray} (hx:st i=some x):w.cell? ⟨q,i*3+2,none⟩=some (B i):=by
 rw [h.row.cell,rL_at st B hi (by omega),rcV2 st B i hx]
theorem RP.k2' {w:World} {r q n i:Nat} {st:Sx} {B:Nat→Value} (h:RP w r q n st B) (hi:i<n):∃v,w.cell? ⟨q,i*3+2,none⟩=some v:=by
 rw [h.row.cell,rL_at st B hi (by omega)]
 exact ⟨_,rfl⟩
theorem atS_isR (k:Int) (r q n:Nat) (st:Sx) (B:Nat→Value) (w:World) (h:RP w r q n st B):Calls Tryz.prog 80 #[.pointer (some ⟨r,0,none⟩),.int .i64 k] w fun e w'=>e=.returned (.bool (atS st n k).isSome)∧w'=w:=by
 have c0:=h.c0
 unfold atS
 by_cases h0:0≤k
 · by_cases h1:k<(n:Int)
   · obtain ⟨i,rfl⟩:∃i:Nat,k=(i:Int):=⟨k.toNat,by omega⟩
     rw [if_pos ⟨h0,h1⟩,Int.toNat_natCast,Option.isSome_map]
     have hi:i<n:=by omega
     obtain ⟨b,hb⟩:∃b,(st i).isSome=b:=⟨_,rfl⟩
     have k0:=h.k0 hi hb
     rw [hb]
     clear h h0 h1 hb
     go_enter Tryz.func80,Tryz.ntmps80
     go_wp2_with fail
     all_goals
      go_ret
      exact ⟨rfl,rfl⟩
   rw [if_neg (by omega)]
   clear h
   go_enter Tryz.func80,Tryz.ntmps80
   go_wp2_with fail
   go_ret
   exact ⟨rfl,rfl⟩
 rw [if_neg (by omega)]
 clear h
 go_enter Tryz.func80,Tryz.ntmps80
 go_wp2_with fail
 go_ret
 exact ⟨rfl,rfl⟩
theorem fst1_some {st:Sx} {n i:Nat} (hi:i<n) (hs:st i=none) (h:∀j,j<i→¬st j=none):fst1 st n=some i:=by
 unfold fst1
 refine zgi (by omega) (by omega) (by simp [hi,hs]) (fun k _ hk=>?_)
 have:=h k hk
 cases e:st k with
 |none=>exact absurd e this
 |some x=>simp
theorem fst1_none {st:Sx} {n:Nat} (h:∀j,j<n→¬st j=none):fst1 st n=none:=by
 unfold fst1
 refine zgj (fun k _ hk=>?_)
 by_cases hn:k<n
 · have:=h k hn
   cases e:st k with
   |none=>exact absurd e this
   |some x=>simp
 simp [hn]
theorem rg_put {w:World} {st:Sx} {B:Nat→Value} {i:Nat} {x:Option (ByteArray×ByteArray)} {v:Value} (h:∀o d ad c,x=some (o,d)→v=.slice (some ad) d.size c→0<d.size→w.heap.size≤ad.block):Nw w (RG st B) (RG (upS st i x) (upN B i v)):=by
 rintro k ⟨j,o,d,ad,c,e1,e2,e3,rfl⟩
 unfold upS at e1
 unfold upN at e2
 by_cases e:j=i
 · rw [if_pos e] at e1 e2
   exact .inr (h o d ad c e1 e2 e3)
 rw [if_neg e] at e1 e2
 exact .inl ⟨j,o,d,ad,c,e1,e2,e3,rfl⟩
def RPo (w w':World) (r q n:Nat) (st:Sx) (B:Nat→Value) (st':Sx):Prop:=∃B',RP w' r q n st' B'∧Chg (fun i=>i=q) w w'∧Nw w (RG st B) (RG st' B')
theorem RP.same {w:World} {r q n:Nat} {st:Sx} {B:Nat→Value} (h:RP w r q n st B):RPo w w r q n st B st:=⟨B,h,Chg.refl _ _,Nw.refl _ _⟩
theorem RP.three {w:World} {r q n i:Nat} {st:Sx} {B:Nat→Value} (h:RP w r q n st B) (hi:i<n) (x:Option (ByteArray×ByteArray)) (hx:∀o d,x=some (o,d)→d=emp):
 RPo w (((w.setCell ⟨q,i*3,none⟩ (.bool x.isSome)).setCell ⟨q,i*3+1,none⟩ (.string ((x.map (·.1)).getD ⟨#[]⟩))).setCell ⟨q,i*3+2,none⟩ (.slice none 0 0)) r q n st B (upS st i x):=by
 have hk:Chg (fun j=>j=q) w (((w.setCell ⟨q,i*3,none⟩ (.bool x.isSome)).setCell ⟨q,i*3+1,none⟩ (.string ((x.map (·.1)).getD ⟨#[]⟩))).setCell ⟨q,i*3+2,none⟩ (.slice none 0 0)):=
  ((Chg.set ⟨q,i*3,none⟩ _ w).trans (Chg.set ⟨q,i*3+1,none⟩ _ _) (fun _ _ e=>e)).trans (Chg.set ⟨q,i*3+2,none⟩ _ _) (fun _ _ e=>e)
 refine ⟨_,h.put x (.slice none 0 0) hi hk (by rw [←rL_set n i st B x _ (fun _=>rfl) hi];exact ((h.row.set _ _).set _ _).set _ _) (fun o d e=>?_),hk,rg_put (fun o d ad c _ e _=>by cases e)⟩
 rw [hx o d e]
 exact ⟨none,0,rfl,Sl.nil _ _,fun _=>⟨rfl,rfl⟩,fun x hx=>by cases hx⟩
theorem takeR (o:ByteArray) (r q n:Nat) (st:Sx) (B:Nat→Value) (w:World) (h:RP w r q n st B):
 Calls Tryz.prog 73 #[.pointer (some ⟨r,0,none⟩),.string o] w fun e w'=>e=.returned (takeV st n)∧RPo w w' r q n st B (takeS st n o):=by
 have c0:=h.c0
 have hn:=h.n1
 have HR:=zaa h
 have hb85:Tryz.prog.built 116 [(0,.bool true),(1,.string o)]=some #[.bool true,.string o,.slice none 0 0]:=by kernel_rfl
 clear h
 go_enter Tryz.func73,Tryz.ntmps73
 go_wp2_with fail
 go_loopw [6] (fun v6 wx=>∃i:Nat,v6=.int .i64 (i:Int)∧i≤n∧wx=w∧Hid (∀j,j<i→¬st j=none)) (fun v6 _=>n - (intOf v6).toNat)
 case atStart=>exact ⟨0,rfl,by omega,rfl,zaa (fun j hj=>absurd hj (by omega))⟩
 case round=>
  obtain ⟨i,rfl,hi,rfl,hlt⟩:=hrel
  by_cases hin:i<n
  · cases hs:st i with
    |none=>
     have k0:=HR.out.k0 hin (show (st i).isSome=false by rw [hs];rfl)
     have k1:=HR.out.k1 hin
     obtain ⟨v2,k2⟩:=HR.out.k2' hin
     have f0:=HR.out.row.frozen (i*3)
     have f1:=HR.out.row.frozen (i*3+1)
     have f2:=HR.out.row.frozen (i*3+2)
     have hf:=fst1_some hin hs hlt.out
     go_wp2_with fail
     go_ret2
     unfold takeV takeS
     rw [hf]
     exact ⟨rfl,HR.out.three hin (some (o,emp)) (fun o' d e=>(Prod.mk.inj (Option.some.inj e)).2.symm)⟩
    |some x=>
     have k0:=HR.out.k0 hin (show (st i).isSome=true by rw [hs];rfl)
     have HS:=zaa hs
     clear hs
     go_wp2_with fail
     refine ⟨⟨i+1,by first|rfl|simp,by omega,by first|rfl|trivial,zaa (fun j hj=>?_)⟩,?_⟩
     · by_cases e:j=i
       · rw [e,HS.out];exact fun h=>by cases h
       exact hlt.out j (by omega)
     show n - ((i:Int)+1).toNat<n - (i:Int).toNat
     omega
  have hf:fst1 st n=none:=fst1_none (fun j hj=>hlt.out j (by omega))
  have HF:=zaa hf
  clear hf
  go_wp2_with fail
  go_ret2
  unfold takeV takeS
  rw [HF.out]
  exact ⟨rfl,HR.out.same⟩
theorem wpList_app_eq {P:Program} {w w':World} {ops:Array Oper} {rest:List Oper} {o:Oper} {a:Act} {Q:Exit→Act→World→Prop} (hgd:o.guard=none) (s x:Operand) (t:TypeId)
 (ho:o.op=.call { callee:=.builtin .append,args:=#[s,x],argTypes:=#[t,t] }) (v1 v2 r:Value) (hs:a.eval s=v1) (hx:a.eval x=v2)
 (hr:(Builtin.append_ #[t,t] o.type #[v1,v2]).run P w=.ok r w') (h:wpList P ops Q rest (a.put o.dst r) w'):wpList P ops Q (o :: rest) a w:=by
 refine wpList_plain hgd fun K hK=>?_
 unfold Oper.wp
 simp [execOp,ho,resolve,invoke,builtin,hs,hx,hr,Result.andThen]
 exact hK _ _ h
theorem ze6:(Tryz.prog.info? 5).map (fun i=>(i.zero,i.size,i.bytes))=some (some (.int .u8 0),1,1):=by kernel_rfl
theorem inf5:∃i0,Tryz.prog.info? 5=some i0∧i0.zero=some (.int .u8 0)∧i0.size=1∧i0.bytes=1:=info_parts ze6
theorem run_ap0 (w:World) (ty:TypeId):(Builtin.append_ #[84,84] ty #[.slice none 0 0,.slice none 0 0]).run Tryz.prog w=.ok (.slice none 0 0) w:=by kernel_rfl
theorem run_apS (w:World) (ty:TypeId) (ad:Option Addr) (m c:Nat) (l:List Int) (hs:Sl w ad m l) (hn:ad=none→m=0∧c=0) (hm:m≤140737488355328):
 ∃ad' c' w',(Builtin.append_ #[84,84] ty #[.slice none 0 0,.slice ad m c]).run Tryz.prog w=.ok (.slice ad' m c') w'∧Sl w' ad' m l∧Below w.heap.size w w'∧(ad'=none→m=0∧c'=0)∧(∀x,ad'=some x→w.heap.size≤x.block∧Tg w' x.block 5):=by
 obtain ⟨i0,hi0,hz0,hz1,hz2⟩:=inf5
 cases ad with
 |none=>
  obtain ⟨rfl,rfl⟩:=hn rfl
  have hl:l=[]:=List.eq_nil_of_length_eq_zero hs.len
  subst hl
  exact ⟨none,0,w,run_ap0 w ty,Sl.nil _ _,Below.refl _ _,fun _=>⟨rfl,rfl⟩,fun x hx=>by cases hx⟩
 |some x=>
  obtain ⟨v',w',hr,ho,hgr,hiff⟩:=run_append_own (P:=Tryz.prog) w w.heap.size 84 ty 5 i0 (.int .u8 0) 1 1 Tryz.underlying84 hi0 hz0 hz1 hz2 rfl (by omega) (.slice none 0 0) 0 [] (World.ownsRow_nil _ _ _ _) x m c (zae l) (by rw [zaf,hs.len];omega) hs.cells (zce l) (by unfold maxLen;omega) (by omega) (Nat.le_refl _)
  rw [Nat.zero_add,List.nil_append] at ho
  obtain ⟨ad',c',rfl⟩:=zal ho
  have hcap:=zc4 ho
  refine ⟨ad',c',w',hr,zbp ho hs.byte,zcm (e:=5) (size:=1) hgr (World.ownsRow_nil _ _ _ _) (Nat.le_refl _),fun e=>⟨(hcap.2.2.2 e).1,(hcap.2.2.2 e).2⟩,fun y hy=>?_⟩
  subst hy
  rcases ho.2 with ⟨h0,_⟩|⟨g',cap',cur,hv,hb',hh,_⟩
  · cases h0
  simp only [Value.slice.injEq,Option.some.injEq] at hv
  rw [hv.1]
  exact ⟨hb',⟨_,_,hh⟩⟩
theorem getR (k:Int) (r q n:Nat) (st:Sx) (B:Nat→Value) (w:World) (h:RP w r q n st B) (hd:∀i o d,st i=some (o,d)→d.size≤128):
 Calls Tryz.prog 58 #[.pointer (some ⟨r,0,none⟩),.int .i64 k] w fun e w'=>Below w.heap.size w w'∧((atS st n k=none∧e=.returned (.tuple #[.slice none 0 0,.int .i64 111]))∨
  ∃i o d ad c,atS st n k=some (i,o,d)∧e=.returned (.tuple #[.slice ad d.size c,.int .i64 0])∧Sl w' ad d.size (bts d)∧∀x,ad=some x→w.heap.size≤x.block):=by
 have c0:=h.c0
 have hn:=h.n1
 have HR:=zaa h
 have HIS:=zaa (atS_isR k r q n st B w h)
 clear h
 rcases atS_cases st n k with ⟨e1,e2⟩|⟨i,o,d,e1,rfl,hi,hst,e2⟩
 · rw [e1] at HIS
   have E1:=zaa e1
   clear e2 e1
   go_enter Tryz.func58,Tryz.ntmps58
   go_wp2_with (refine HIS.out.mono ?_;clear HIS;rintro e w1 ⟨rfl,rfl⟩)
   go_ret2
   exact ⟨Below.refl _ _,.inl ⟨E1.out,rfl⟩⟩
 rw [e1] at HIS
 have E1:=zaa e1
 clear e2 e1
 obtain ⟨ad,c,eB,hS,hno,_⟩:=HR.out.byt i o d hst
 have hds:=hd i o d hst
 have k2:=HR.out.k2 hi hst
 rw [eB] at k2
 obtain ⟨a',c',w9,hr,h1,h2,h3,h4⟩:=run_apS w 84 ad d.size c (bts d) hS hno (by omega)
 have H1:=zaa (And.intro h1 h2)
 have H4:=zaa (fun x hx=>(h4 x hx).1)
 clear hst eB h1 h2 h3 h4 hS hno hd hds
 generalize hm9:d.size=m9 at hr k2 H1
 have HM9:=zaa hm9
 clear hm9 hn
 have HRR:=zaa hr
 clear hr
 go_enter Tryz.func58,Tryz.ntmps58
 go_wp2_with (first|(refine HIS.out.mono ?_;clear HIS;rintro e w1 ⟨rfl,rfl⟩)|(refine wpList_app_eq rfl (.tmp 13) (.tmp 21) 84 rfl (.slice none 0 0) (.slice ad m9 c) (.slice a' m9 c') rfl rfl HRR.out ?_))
 go_ret2
 exact ⟨H1.out.2,.inr ⟨i,o,d,a',c',E1.out,by rw [HM9.out];rfl,by rw [HM9.out];exact H1.out.1,H4.out⟩⟩
def frL (st:Sx) (i:Nat):Nat:=((List.range i).filter fun j=>(st j).isNone).length
theorem frL_succ (st:Sx) (i:Nat):frL st (i+1)=frL st i+(if (st i).isNone then 1 else 0):=by
 unfold frL
 rw [List.range_succ,List.filter_append,List.length_append]
 cases e:st i <;> simp [e]
theorem frL_le (st:Sx) (i:Nat):frL st i≤i:=by
 unfold frL
 have:=List.length_filter_le (fun j=>(st j).isNone) (List.range i)
 simpa using this
theorem frL_tk (st:Sx) (n:Nat):frL st n+(tkL st n).length=n:=by
 have key:∀l:List Nat,(l.filter fun j=>(st j).isNone).length+(l.filterMap fun i=>(st i).map fun x=>((i:Int),leV x.1 x.2)).length=l.length:=by
  intro l
  induction l with
  |nil=>rfl
  |cons i l ih=>
   cases e:st i with
   |none=>simp [e];omega
   |some x=>simp [e];omega
 have:=key (List.range n)
 rw [List.length_range] at this
 exact this
theorem leftR (r q n:Nat) (st:Sx) (B:Nat→Value) (w:World) (h:RP w r q n st B):
 Calls Tryz.prog 27 #[.pointer (some ⟨r,0,none⟩)] w fun e w'=>e=.returned (.int .i64 ((n - (tkL st n).length:Nat):Int))∧w'=w:=by
 have c0:=h.c0
 have hn:=h.n1
 have HR:=zaa h
 have HT:=zaa (frL_tk st n)
 clear h
 go_enter Tryz.func27,Tryz.ntmps27
 go_wp2_with fail
 go_loopw [3,4] (fun v3 v4 wx=>∃i:Nat,v3=.int .i64 (frL st i:Int)∧v4=.int .i64 (i:Int)∧i≤n∧wx=w) (fun _ v4 _=>n - (intOf v4).toNat)
 case atStart=>exact ⟨0,rfl,rfl,by omega,rfl⟩
 case round=>
  obtain ⟨i,rfl,rfl,hi,rfl⟩:=hrel
  have hfi:=frL_le st i
  have hfs:=frL_succ st i
  obtain ⟨f,hf⟩:∃f,frL st i=f:=⟨_,rfl⟩
  rw [hf] at hfi hfs ⊢
  have HF:=zaa hf
  clear hf
  by_cases hin:i<n
  · cases hs:st i with
    |none=>
     rw [hs] at hfs
     have HFS:=zaa hfs
     have k0:=HR.out.k0 hin (show (st i).isSome=false by rw [hs];rfl)
     clear hfs hs
     go_wp2_with fail
     refine ⟨⟨i+1,by rw [HFS.out];first|rfl|simp,by first|rfl|simp,by omega,by first|rfl|trivial⟩,?_⟩
     show n - ((i:Int)+1).toNat<n - (i:Int).toNat
     omega
    |some x=>
     rw [hs] at hfs
     have HFS:=zaa hfs
     have k0:=HR.out.k0 hin (show (st i).isSome=true by rw [hs];rfl)
     clear hfs hs
     go_wp2_with fail
     refine ⟨⟨i+1,by rw [HFS.out];first|rfl|simp,by first|rfl|simp,by omega,by first|rfl|trivial⟩,?_⟩
     show n - ((i:Int)+1).toNat<n - (i:Int).toNat
     omega
  have hfv:(f:Int)=((n - (tkL st n).length:Nat):Int):=by
   have h1:=HT.out
   have h2:=HF.out
   rw [show i=n by omega] at h2
   omega
  have HV:=zaa hfv
  clear hfs hfv
  go_wp2_with fail
  go_ret
  exact ⟨by rw [HV.out];rfl,rfl⟩
end Go.Proofs.YtlppibigceeimaaGreatDoor.K
