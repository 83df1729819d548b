import Derived.Test.YtlppibigceeimaaGreatDoorSeT
set_option linter.unusedSimpArgs false
set_option linter.unusedVariables false
set_option maxHeartbeats 40000000
set_option maxRecDepth 100000
namespace Go.Proofs.YtlppibigceeimaaGreatDoor
open Go Go.RowKit
def L3 (base:Nat) (x y:Value) (a b:World):Prop:=Below base a b∧∀g,base≤g→(∀s t,Blk a g 53 [s,t]→∃s' t',Blk b g 53 [s',t'])∧(Blk a g 53 [x,y]→Blk b g 53 [x,y])
theorem L3.refl (base:Nat) (x y:Value) (a:World):L3 base x y a a:=⟨Below.refl _ _,fun g _=>⟨fun s t h=>⟨s,t,h⟩,id⟩⟩
theorem L3.trans (base:Nat) (x y:Value) (a b c:World) (h:L3 base x y a b) (k:L3 base x y b c):L3 base x y a c:=⟨h.1.trans k.1,fun g hg=>⟨fun s t e=>by
 obtain ⟨s',t',e2⟩:=(h.2 g hg).1 s t e
 exact (k.2 g hg).1 s' t' e2,fun e=>(k.2 g hg).2 ((h.2 g hg).2 e)⟩⟩
theorem L3.draw (base:Nat) (x y:Value) (w:World):L3 base x y w { w with drawn:=w.drawn+1 }:=⟨(Below.refl base w).drew,fun g _=>⟨fun s t h=>⟨s,t,h⟩,id⟩⟩
theorem L3.of_below {base:Nat} {x y:Value} {a b:World} (hb:base≤a.heap.size) (h:Below a.heap.size a b):L3 base x y a b:=⟨h.mono hb,fun g _=>⟨fun s t e=>⟨s,t,e.later h⟩,fun e=>e.later h⟩⟩
theorem L3.store {base g:Nat} {x y s t:Value} {a:World} (hg:base≤g) (h:Blk a g 53 [s,t]):L3 base x y a ((a.setCell ⟨g,0,none⟩ x).setCell ⟨g,1,none⟩ y):=by
 refine ⟨((Below.refl base a).setCell hg _).setCell hg _,fun g' hg'=>?_⟩
 by_cases e:g'=g
 · subst e
   have:=(h.set 0 x).set 1 y
   exact ⟨fun _ _ _=>⟨x,y,this⟩,fun _=>this⟩
 exact ⟨fun s' t' h'=>⟨s',t',(h'.setOff _ _ e).setOff _ _ e⟩,fun h'=>(h'.setOff _ _ e).setOff _ _ e⟩
def L3a (base:Nat) (x y:Value):Ent (L3 base x y):=⟨fun v w=>∃g s t,v=.pointer (some ⟨g,0,none⟩)∧base≤g∧Blk w g 53 [s,t],fun v w w' h k=>by
 obtain ⟨g,s,t,e1,e2,e3⟩:=h
 obtain ⟨s',t',e4⟩:=(k.2 g e2).1 s t e3
 exact ⟨g,s',t',e1,e2,e4⟩⟩
def L3s (base:Nat) (x y:Value):Ent (L3 base x y):=⟨fun v w=>∃g,v=.pointer (some ⟨g,0,none⟩)∧base≤g∧Blk w g 53 [x,y],fun v w w' h k=>by
 obtain ⟨g,e1,e2,e3⟩:=h
 exact ⟨g,e1,e2,(k.2 g e2).2 e3⟩⟩
def noS3:Nat→Bool:=fun _=>false
theorem L3info (w:World):(Instr.alloc 53 true (.tuple #[])).run Tryz.prog w=.ok (.pointer (some ⟨w.heap.size,0,none⟩)) (w.alloc (.cells #[.int .i64 0,.int .u64 0] 53)):=by
 have hi:(Tryz.prog.info? 53).map (fun i=>i.zero.map (·.cells))=some (some #[.int .i64 0,.int .u64 0]):=by kernel_rfl
 cases hq:Tryz.prog.info? 53 with
 |none=>simp [hq] at hi
 |some i=>
  rw [hq] at hi
  simp only [Option.map_some,Option.some.injEq] at hi
  cases hzz:i.zero with
  |none=>rw [hzz] at hi;cases hi
  |some z=>
   rw [hzz] at hi
   simp only [Option.map_some,Option.some.injEq] at hi
   rw [←hi]
   simp [Instr.alloc,zeroValue,typeInfo,hq,hzz,newVar,newRow]
theorem tl_r3 (v ob k S base:Nat) (o:ByteArray) (id:Int) (X Y:Int) (b:Bool) (w:World) (a0:Act) (Q:Exit→Act→World→Prop) (hbase:w.heap.size=base) (hsz:a0.tmps.size=123)
 (s0:a0.tmps.getD 0 undef=.pointer (some ⟨v,0,none⟩)) (s1:a0.tmps.getD 1 undef=.int .i64 (k:Int)) (s5:a0.tmps.getD 5 undef=.pointer (some ⟨ob,0,none⟩)) (hk3:(k:Int)<2) (hk0:¬(k:Int)<0)
 (cp:∀w1,Below base w w1→w1.cell? ⟨v,2+k,none⟩=some (.pointer (some ⟨S,0,none⟩))) (o2:∀w1,Below base w w1→w1.cell? ⟨ob,2,none⟩=some (.int .i64 id)) (o3:∀w1,Below base w w1→w1.cell? ⟨ob,3,none⟩=some (.string o))
 (hcall:∀w1,Below base w w1→Calls Tryz.prog 16 #[.pointer (some ⟨S,0,none⟩),.string o,.int .i64 id] w1 fun e w2=>e=.returned (.tuple #[.agg #[.int .i64 X,.int .u64 Y],.bool b])∧Below w1.heap.size w1 w2)
 (hQ:∀(v48 v49 v50 v51 v52 v53 v54 v55 v56 v57 v58 v47 v59 v60:Value) (g9:Nat) (w1:World),Below base w w1→Blk w1 g9 53 [.int .i64 X,.int .u64 Y]→base≤g9→Q .normal ((((((((((((((((a0.put (some 48) v48).put (some 49) v49).put (some 50) v50).put (some 51) v51).put (some 52) v52).put (some 53) v53).put (some 54) v54).put (some 55) v55).put (some 56) v56).put (some 57) v57).put (some 58) v58).put (some 47) v47).put (some 59) v59).put (some 60) v60).put (some 9) (.pointer (some ⟨g9,0,none⟩))).put (some 10) (.bool b)) w1):
 Code.wp Tryz.prog ((Tryz.f24.body.bind (zag 3)).getD .skip) Q a0 w:=by
 conv=>arg 2;whnf
 refine zc8 (L3 base (.int .i64 X) (.int .u64 Y)) (TE [Ent.val (.pointer (some ⟨v,0,none⟩)),Ent.val (.int .i64 (k:Int)),Ent.val (.pointer (some ⟨v,0,none⟩)),Ent.val (.pointer (some ⟨v,2,none⟩)),Ent.val (.pointer (some ⟨v,2+k,none⟩)),Ent.val (.pointer (some ⟨S,0,none⟩)),Ent.val (.pointer (some ⟨ob,3,none⟩)),Ent.val (.string o),Ent.val (.pointer (some ⟨ob,2,none⟩)),Ent.val (.int .i64 id),Ent.val (.tuple #[.agg #[.int .i64 X,.int .u64 Y],.bool b]),Ent.val (.tuple #[.agg #[.int .i64 X,.int .u64 Y],.bool b]),Ent.val (.agg #[.int .i64 X,.int .u64 Y]),Ent.val (.bool b),L3a base (.int .i64 X) (.int .u64 Y),L3s base (.int .i64 X) (.int .u64 Y),Ent.val (.bool b)]) noS3 (by kernel_rfl) (by kernel_rfl) (by kernel_rfl) (by rw [hsz];kernel_rfl) (L3.refl base (.int .i64 X) (.int .u64 Y)) (L3.trans base (.int .i64 X) (.int .u64 Y)) (za4 _) (fun a b h=>h.1.size) (L3.draw base (.int .i64 X) (.int .u64 Y) w) ?hop ?hdone
 case hdone=>
  intro a w1 hL hS hT
  have he:=zam hS
  obtain ⟨g9,e1,e2,e3⟩:∃g,a.tmps.getD 9 undef=.pointer (some ⟨g,0,none⟩)∧base≤g∧Blk w1 g 53 [.int .i64 X,.int .u64 Y]:=hT 15 _ rfl
  have e4:a.tmps.getD 10 undef=.bool b:=hT 16 _ rfl
  have hQ2:=hQ (a.tmps.getD 48 undef) (a.tmps.getD 49 undef) (a.tmps.getD 50 undef) (a.tmps.getD 51 undef) (a.tmps.getD 52 undef) (a.tmps.getD 53 undef) (a.tmps.getD 54 undef) (a.tmps.getD 55 undef) (a.tmps.getD 56 undef) (a.tmps.getD 57 undef) (a.tmps.getD 58 undef) (a.tmps.getD 47 undef) (a.tmps.getD 59 undef) (a.tmps.getD 60 undef) g9 w1 hL.1 e3 e2
  rw [←e1,←e4] at hQ2
  rw [he]
  exact hQ2
 case hop=>
  intro i o9 hi
  have hlt:i<17:=(Array.getElem?_eq_some_iff.1 hi).1
  rcases (show i=0∨i=1∨i=2∨i=3∨i=4∨i=5∨i=6∨i=7∨i=8∨i=9∨i=10∨i=11∨i=12∨i=13∨i=14∨i=15∨i=16 by omega) with rfl|rfl|rfl|rfl|rfl|rfl|rfl|rfl|rfl|rfl|rfl|rfl|rfl|rfl|rfl|rfl|rfl
  all_goals obtain rfl:=Option.some.inj hi
  all_goals clear hi hlt
  all_goals intro a w1 hL hS hD _
  · have e0:a.tmps.getD 0 undef=.pointer (some ⟨v,0,none⟩):=(hS.slot 0 (by kernel_rfl)).trans s0
    refine zak rfl ?_
    exact zao (L3.refl base (.int .i64 X) (.int .u64 Y)) rfl (.pointer (some ⟨v,0,none⟩)) (by simp [execOp,Act.eval,e0,go_sem]) rfl
  · have e1:a.tmps.getD 1 undef=.int .i64 (k:Int):=(hS.slot 1 (by kernel_rfl)).trans s1
    refine zak rfl ?_
    exact zao (L3.refl base (.int .i64 X) (.int .u64 Y)) rfl (.int .i64 (k:Int)) (by simp [execOp,Act.eval,e1,go_sem]) rfl
  · have d0:a.tmps.getD 48 undef=.pointer (some ⟨v,0,none⟩):=hD ⟨0,.data⟩ (by simp) rfl _ rfl
    refine zak rfl ?_
    exact zao (L3.refl base (.int .i64 X) (.int .u64 Y)) rfl (.pointer (some ⟨v,0,none⟩)) (by simp [execOp,Act.eval,d0,go_sem]) rfl
  · have d2:a.tmps.getD 50 undef=.pointer (some ⟨v,0,none⟩):=hD ⟨2,.data⟩ (by simp) rfl _ rfl
    refine zak rfl ?_
    exact zao (L3.refl base (.int .i64 X) (.int .u64 Y)) rfl (.pointer (some ⟨v,2,none⟩)) (by simp [execOp,Act.eval,d2,go_sem]) rfl
  · have d3:a.tmps.getD 51 undef=.pointer (some ⟨v,2,none⟩):=hD ⟨3,.data⟩ (by simp) rfl _ rfl
    have d1:a.tmps.getD 49 undef=.int .i64 (k:Int):=hD ⟨1,.data⟩ (by simp) rfl _ rfl
    refine zak rfl ?_
    exact zao (L3.refl base (.int .i64 X) (.int .u64 Y)) rfl (.pointer (some ⟨v,2+k,none⟩)) (by simp [execOp,Act.eval,d3,d1,hk3,hk0,go_sem]) rfl
  · have d4:a.tmps.getD 52 undef=.pointer (some ⟨v,2+k,none⟩):=hD ⟨4,.data⟩ (by simp) rfl _ rfl
    refine zak rfl ?_
    exact zao (L3.refl base (.int .i64 X) (.int .u64 Y)) rfl (.pointer (some ⟨S,0,none⟩)) (by simp [execOp,Act.eval,d4,cp w1 hL.1,go_sem]) rfl
  · have e5:a.tmps.getD 5 undef=.pointer (some ⟨ob,0,none⟩):=(hS.slot 5 (by kernel_rfl)).trans s5
    refine zak rfl ?_
    exact zao (L3.refl base (.int .i64 X) (.int .u64 Y)) rfl (.pointer (some ⟨ob,3,none⟩)) (by simp [execOp,Act.eval,e5,go_sem]) rfl
  · have d6:a.tmps.getD 54 undef=.pointer (some ⟨ob,3,none⟩):=hD ⟨6,.data⟩ (by simp) rfl _ rfl
    refine zak rfl ?_
    exact zao (L3.refl base (.int .i64 X) (.int .u64 Y)) rfl (.string o) (by simp [execOp,Act.eval,d6,o3 w1 hL.1,go_sem]) rfl
  · have e5:a.tmps.getD 5 undef=.pointer (some ⟨ob,0,none⟩):=(hS.slot 5 (by kernel_rfl)).trans s5
    refine zak rfl ?_
    exact zao (L3.refl base (.int .i64 X) (.int .u64 Y)) rfl (.pointer (some ⟨ob,2,none⟩)) (by simp [execOp,Act.eval,e5,go_sem]) rfl
  · have d8:a.tmps.getD 56 undef=.pointer (some ⟨ob,2,none⟩):=hD ⟨8,.data⟩ (by simp) rfl _ rfl
    refine zak rfl ?_
    exact zao (L3.refl base (.int .i64 X) (.int .u64 Y)) rfl (.int .i64 id) (by simp [execOp,Act.eval,d8,o2 w1 hL.1,go_sem]) rfl
  · have d5:a.tmps.getD 53 undef=.pointer (some ⟨S,0,none⟩):=hD ⟨5,.data⟩ (by simp) rfl _ rfl
    have d7:a.tmps.getD 55 undef=.string o:=hD ⟨7,.data⟩ (by simp) rfl _ rfl
    have d9:a.tmps.getD 57 undef=.int .i64 id:=hD ⟨9,.data⟩ (by simp) rfl _ rfl
    refine zak rfl ?_
    refine okB_call (f:=16) (args:=#[.pointer (some ⟨S,0,none⟩),.string o,.int .i64 id]) (by simp [execOp,resolve,Act.eval,d5,d7,d9,go_sem]) ?_
    refine (hcall w1 hL.1).mono ?_
    rintro e w2 ⟨rfl,h2⟩
    exact ⟨_,rfl,L3.of_below (by rw [←hbase];exact hL.1.size) h2,rfl,fun e=>by cases e⟩
  · have d10:a.tmps.getD 58 undef=.tuple #[.agg #[.int .i64 X,.int .u64 Y],.bool b]:=hD ⟨10,.data⟩ (by simp) rfl _ rfl
    refine zak rfl ?_
    exact zao (L3.refl base (.int .i64 X) (.int .u64 Y)) rfl (.tuple #[.agg #[.int .i64 X,.int .u64 Y],.bool b]) (by simp [execOp,Act.eval,d10,go_sem]) rfl
  · have d11:a.tmps.getD 47 undef=.tuple #[.agg #[.int .i64 X,.int .u64 Y],.bool b]:=hD ⟨11,.data⟩ (by simp) rfl _ rfl
    refine zak rfl ?_
    exact zao (L3.refl base (.int .i64 X) (.int .u64 Y)) rfl (.agg #[.int .i64 X,.int .u64 Y]) (by simp [execOp,Act.eval,d11,go_sem]) rfl
  · have d11:a.tmps.getD 47 undef=.tuple #[.agg #[.int .i64 X,.int .u64 Y],.bool b]:=hD ⟨11,.data⟩ (by simp) rfl _ rfl
    refine zak rfl ?_
    exact zao (L3.refl base (.int .i64 X) (.int .u64 Y)) rfl (.bool b) (by simp [execOp,Act.eval,d11,go_sem]) rfl
  · refine zak rfl ?_
    unfold Oper.wp
    simp only [execOp,Sem.run_bind,L3info,Result.andThen_ok,Sem.run_pure,Oper.upon]
    exact ⟨_,rfl,L3.of_below (by rw [←hbase];exact hL.1.size) ((Below.refl _ _).alloc (Nat.le_refl _) _),⟨w1.heap.size,_,_,rfl,by rw [←hbase];exact hL.1.size,Blk.new w1 53 [.int .i64 0,.int .u64 0]⟩,fun e=>by cases e⟩
  · have d12:a.tmps.getD 59 undef=.agg #[.int .i64 X,.int .u64 Y]:=hD ⟨12,.data⟩ (by simp) rfl _ rfl
    refine zak rfl ?_
    obtain ⟨g,s,t,e1,e2,e3⟩:∃g s t,a.tmps.getD 9 undef=.pointer (some ⟨g,0,none⟩)∧base≤g∧Blk w1 g 53 [s,t]:=hD ⟨14,.data⟩ (by simp) rfl _ rfl
    have c0:w1.cell? ⟨g,0,none⟩=some s:=e3.cell 0
    have c1:w1.cell? ⟨g,1,none⟩=some t:=e3.cell 1
    have f0:=e3.frozen 0
    have f1:=e3.frozen 1
    unfold Oper.wp
    simp [execOp,Act.eval,e1,d12,c0,c1,f0,f1,Result.andThen,go_sem]
    exact ⟨L3.store e2 e3,undef,⟨g,e1,e2,(e3.set 0 _).set 1 _⟩,fun e=>by cases e⟩
  have d13:a.tmps.getD 60 undef=.bool b:=hD ⟨13,.data⟩ (by simp) rfl _ rfl
  refine zak rfl ?_
  exact zao (L3.refl base (.int .i64 X) (.int .u64 Y)) rfl (.bool b) (by simp [execOp,Act.eval,d13,go_sem]) rfl
theorem tl_r4 (v ob k S base:Nat) (o:ByteArray) (id:Int) (X Y:Int) (b:Bool) (w:World) (a0:Act) (Q:Exit→Act→World→Prop) (hbase:w.heap.size=base) (hsz:a0.tmps.size=123)
 (s0:a0.tmps.getD 0 undef=.pointer (some ⟨v,0,none⟩)) (s1:a0.tmps.getD 1 undef=.int .i64 (k:Int)) (s5:a0.tmps.getD 5 undef=.pointer (some ⟨ob,0,none⟩)) (hk3:(k:Int)<2) (hk0:¬(k:Int)<0)
 (cp:∀w1,Below base w w1→w1.cell? ⟨v,6+k,none⟩=some (.pointer (some ⟨S,0,none⟩))) (o2:∀w1,Below base w w1→w1.cell? ⟨ob,2,none⟩=some (.int .i64 id)) (o3:∀w1,Below base w w1→w1.cell? ⟨ob,3,none⟩=some (.string o))
 (hcall:∀w1,Below base w w1→Calls Tryz.prog 50 #[.pointer (some ⟨S,0,none⟩),.string o,.int .i64 id] w1 fun e w2=>e=.returned (.tuple #[.agg #[.int .i64 X,.int .u64 Y],.bool b])∧Below w1.heap.size w1 w2)
 (hQ:∀(v62 v63 v64 v65 v66 v67 v68 v69 v70 v71 v72 v61 v73 v74:Value) (g9:Nat) (w1:World),Below base w w1→Blk w1 g9 53 [.int .i64 X,.int .u64 Y]→base≤g9→Q .normal ((((((((((((((((a0.put (some 62) v62).put (some 63) v63).put (some 64) v64).put (some 65) v65).put (some 66) v66).put (some 67) v67).put (some 68) v68).put (some 69) v69).put (some 70) v70).put (some 71) v71).put (some 72) v72).put (some 61) v61).put (some 73) v73).put (some 74) v74).put (some 11) (.pointer (some ⟨g9,0,none⟩))).put (some 12) (.bool b)) w1):
 Code.wp Tryz.prog ((Tryz.f24.body.bind (zag 4)).getD .skip) Q a0 w:=by
 conv=>arg 2;whnf
 refine zc8 (L3 base (.int .i64 X) (.int .u64 Y)) (TE [Ent.val (.pointer (some ⟨v,0,none⟩)),Ent.val (.int .i64 (k:Int)),Ent.val (.pointer (some ⟨v,0,none⟩)),Ent.val (.pointer (some ⟨v,6,none⟩)),Ent.val (.pointer (some ⟨v,6+k,none⟩)),Ent.val (.pointer (some ⟨S,0,none⟩)),Ent.val (.pointer (some ⟨ob,3,none⟩)),Ent.val (.string o),Ent.val (.pointer (some ⟨ob,2,none⟩)),Ent.val (.int .i64 id),Ent.val (.tuple #[.agg #[.int .i64 X,.int .u64 Y],.bool b]),Ent.val (.tuple #[.agg #[.int .i64 X,.int .u64 Y],.bool b]),Ent.val (.agg #[.int .i64 X,.int .u64 Y]),Ent.val (.bool b),L3a base (.int .i64 X) (.int .u64 Y),L3s base (.int .i64 X) (.int .u64 Y),Ent.val (.bool b)]) noS3 (by kernel_rfl) (by kernel_rfl) (by kernel_rfl) (by rw [hsz];kernel_rfl) (L3.refl base (.int .i64 X) (.int .u64 Y)) (L3.trans base (.int .i64 X) (.int .u64 Y)) (za4 _) (fun a b h=>h.1.size) (L3.draw base (.int .i64 X) (.int .u64 Y) w) ?hop ?hdone
 case hdone=>
  intro a w1 hL hS hT
  have he:=zam hS
  obtain ⟨g9,e1,e2,e3⟩:∃g,a.tmps.getD 11 undef=.pointer (some ⟨g,0,none⟩)∧base≤g∧Blk w1 g 53 [.int .i64 X,.int .u64 Y]:=hT 15 _ rfl
  have e4:a.tmps.getD 12 undef=.bool b:=hT 16 _ rfl
  have hQ2:=hQ (a.tmps.getD 62 undef) (a.tmps.getD 63 undef) (a.tmps.getD 64 undef) (a.tmps.getD 65 undef) (a.tmps.getD 66 undef) (a.tmps.getD 67 undef) (a.tmps.getD 68 undef) (a.tmps.getD 69 undef) (a.tmps.getD 70 undef) (a.tmps.getD 71 undef) (a.tmps.getD 72 undef) (a.tmps.getD 61 undef) (a.tmps.getD 73 undef) (a.tmps.getD 74 undef) g9 w1 hL.1 e3 e2
  rw [←e1,←e4] at hQ2
  rw [he]
  exact hQ2
 case hop=>
  intro i o9 hi
  have hlt:i<17:=(Array.getElem?_eq_some_iff.1 hi).1
  rcases (show i=0∨i=1∨i=2∨i=3∨i=4∨i=5∨i=6∨i=7∨i=8∨i=9∨i=10∨i=11∨i=12∨i=13∨i=14∨i=15∨i=16 by omega) with rfl|rfl|rfl|rfl|rfl|rfl|rfl|rfl|rfl|rfl|rfl|rfl|rfl|rfl|rfl|rfl|rfl
  all_goals obtain rfl:=Option.some.inj hi
  all_goals clear hi hlt
  all_goals intro a w1 hL hS hD _
  · have e0:a.tmps.getD 0 undef=.pointer (some ⟨v,0,none⟩):=(hS.slot 0 (by kernel_rfl)).trans s0
    refine zak rfl ?_
    exact zao (L3.refl base (.int .i64 X) (.int .u64 Y)) rfl (.pointer (some ⟨v,0,none⟩)) (by simp [execOp,Act.eval,e0,go_sem]) rfl
  · have e1:a.tmps.getD 1 undef=.int .i64 (k:Int):=(hS.slot 1 (by kernel_rfl)).trans s1
    refine zak rfl ?_
    exact zao (L3.refl base (.int .i64 X) (.int .u64 Y)) rfl (.int .i64 (k:Int)) (by simp [execOp,Act.eval,e1,go_sem]) rfl
  · have d0:a.tmps.getD 62 undef=.pointer (some ⟨v,0,none⟩):=hD ⟨0,.data⟩ (by simp) rfl _ rfl
    refine zak rfl ?_
    exact zao (L3.refl base (.int .i64 X) (.int .u64 Y)) rfl (.pointer (some ⟨v,0,none⟩)) (by simp [execOp,Act.eval,d0,go_sem]) rfl
  · have d2:a.tmps.getD 64 undef=.pointer (some ⟨v,0,none⟩):=hD ⟨2,.data⟩ (by simp) rfl _ rfl
    refine zak rfl ?_
    exact zao (L3.refl base (.int .i64 X) (.int .u64 Y)) rfl (.pointer (some ⟨v,6,none⟩)) (by simp [execOp,Act.eval,d2,go_sem]) rfl
  · have d3:a.tmps.getD 65 undef=.pointer (some ⟨v,6,none⟩):=hD ⟨3,.data⟩ (by simp) rfl _ rfl
    have d1:a.tmps.getD 63 undef=.int .i64 (k:Int):=hD ⟨1,.data⟩ (by simp) rfl _ rfl
    refine zak rfl ?_
    exact zao (L3.refl base (.int .i64 X) (.int .u64 Y)) rfl (.pointer (some ⟨v,6+k,none⟩)) (by simp [execOp,Act.eval,d3,d1,hk3,hk0,go_sem]) rfl
  · have d4:a.tmps.getD 66 undef=.pointer (some ⟨v,6+k,none⟩):=hD ⟨4,.data⟩ (by simp) rfl _ rfl
    refine zak rfl ?_
    exact zao (L3.refl base (.int .i64 X) (.int .u64 Y)) rfl (.pointer (some ⟨S,0,none⟩)) (by simp [execOp,Act.eval,d4,cp w1 hL.1,go_sem]) rfl
  · have e5:a.tmps.getD 5 undef=.pointer (some ⟨ob,0,none⟩):=(hS.slot 5 (by kernel_rfl)).trans s5
    refine zak rfl ?_
    exact zao (L3.refl base (.int .i64 X) (.int .u64 Y)) rfl (.pointer (some ⟨ob,3,none⟩)) (by simp [execOp,Act.eval,e5,go_sem]) rfl
  · have d6:a.tmps.getD 68 undef=.pointer (some ⟨ob,3,none⟩):=hD ⟨6,.data⟩ (by simp) rfl _ rfl
    refine zak rfl ?_
    exact zao (L3.refl base (.int .i64 X) (.int .u64 Y)) rfl (.string o) (by simp [execOp,Act.eval,d6,o3 w1 hL.1,go_sem]) rfl
  · have e5:a.tmps.getD 5 undef=.pointer (some ⟨ob,0,none⟩):=(hS.slot 5 (by kernel_rfl)).trans s5
    refine zak rfl ?_
    exact zao (L3.refl base (.int .i64 X) (.int .u64 Y)) rfl (.pointer (some ⟨ob,2,none⟩)) (by simp [execOp,Act.eval,e5,go_sem]) rfl
  · have d8:a.tmps.getD 70 undef=.pointer (some ⟨ob,2,none⟩):=hD ⟨8,.data⟩ (by simp) rfl _ rfl
    refine zak rfl ?_
    exact zao (L3.refl base (.int .i64 X) (.int .u64 Y)) rfl (.int .i64 id) (by simp [execOp,Act.eval,d8,o2 w1 hL.1,go_sem]) rfl
  · have d5:a.tmps.getD 67 undef=.pointer (some ⟨S,0,none⟩):=hD ⟨5,.data⟩ (by simp) rfl _ rfl
    have d7:a.tmps.getD 69 undef=.string o:=hD ⟨7,.data⟩ (by simp) rfl _ rfl
    have d9:a.tmps.getD 71 undef=.int .i64 id:=hD ⟨9,.data⟩ (by simp) rfl _ rfl
    refine zak rfl ?_
    refine okB_call (f:=50) (args:=#[.pointer (some ⟨S,0,none⟩),.string o,.int .i64 id]) (by simp [execOp,resolve,Act.eval,d5,d7,d9,go_sem]) ?_
    refine (hcall w1 hL.1).mono ?_
    rintro e w2 ⟨rfl,h2⟩
    exact ⟨_,rfl,L3.of_below (by rw [←hbase];exact hL.1.size) h2,rfl,fun e=>by cases e⟩
  · have d10:a.tmps.getD 72 undef=.tuple #[.agg #[.int .i64 X,.int .u64 Y],.bool b]:=hD ⟨10,.data⟩ (by simp) rfl _ rfl
    refine zak rfl ?_
    exact zao (L3.refl base (.int .i64 X) (.int .u64 Y)) rfl (.tuple #[.agg #[.int .i64 X,.int .u64 Y],.bool b]) (by simp [execOp,Act.eval,d10,go_sem]) rfl
  · have d11:a.tmps.getD 61 undef=.tuple #[.agg #[.int .i64 X,.int .u64 Y],.bool b]:=hD ⟨11,.data⟩ (by simp) rfl _ rfl
    refine zak rfl ?_
    exact zao (L3.refl base (.int .i64 X) (.int .u64 Y)) rfl (.agg #[.int .i64 X,.int .u64 Y]) (by simp [execOp,Act.eval,d11,go_sem]) rfl
  · have d11:a.tmps.getD 61 undef=.tuple #[.agg #[.int .i64 X,.int .u64 Y],.bool b]:=hD ⟨11,.data⟩ (by simp) rfl _ rfl
    refine zak rfl ?_
    exact zao (L3.refl base (.int .i64 X) (.int .u64 Y)) rfl (.bool b) (by simp [execOp,Act.eval,d11,go_sem]) rfl
  · refine zak rfl ?_
    unfold Oper.wp
    simp only [execOp,Sem.run_bind,L3info,Result.andThen_ok,Sem.run_pure,Oper.upon]
    exact ⟨_,rfl,L3.of_below (by rw [←hbase];exact hL.1.size) ((Below.refl _ _).alloc (Nat.le_refl _) _),⟨w1.heap.size,_,_,rfl,by rw [←hbase];exact hL.1.size,Blk.new w1 53 [.int .i64 0,.int .u64 0]⟩,fun e=>by cases e⟩
  · have d12:a.tmps.getD 73 undef=.agg #[.int .i64 X,.int .u64 Y]:=hD ⟨12,.data⟩ (by simp) rfl _ rfl
    refine zak rfl ?_
    obtain ⟨g,s,t,e1,e2,e3⟩:∃g s t,a.tmps.getD 11 undef=.pointer (some ⟨g,0,none⟩)∧base≤g∧Blk w1 g 53 [s,t]:=hD ⟨14,.data⟩ (by simp) rfl _ rfl
    have c0:w1.cell? ⟨g,0,none⟩=some s:=e3.cell 0
    have c1:w1.cell? ⟨g,1,none⟩=some t:=e3.cell 1
    have f0:=e3.frozen 0
    have f1:=e3.frozen 1
    unfold Oper.wp
    simp [execOp,Act.eval,e1,d12,c0,c1,f0,f1,Result.andThen,go_sem]
    exact ⟨L3.store e2 e3,undef,⟨g,e1,e2,(e3.set 0 _).set 1 _⟩,fun e=>by cases e⟩
  have d13:a.tmps.getD 74 undef=.bool b:=hD ⟨13,.data⟩ (by simp) rfl _ rfl
  refine zak rfl ?_
  exact zao (L3.refl base (.int .i64 X) (.int .u64 Y)) rfl (.bool b) (by simp [execOp,Act.eval,d13,go_sem]) rfl
theorem st_r6 (v ob k ln lc q S:Nat) (la:Option Addr) (o:ByteArray) (id ra rc:Int) (w:World) (a0:Act) (Q:Exit→Act→World→Prop) (hsz:a0.tmps.size=275)
 (s0:a0.tmps.getD 0 undef=.pointer (some ⟨v,0,none⟩))
 (s3:a0.tmps.getD 3 undef=.pointer (some ⟨ob,0,none⟩))
 (s5:a0.tmps.getD 5 undef=.int .i64 (k:Int))
 (hk3:(k:Int)<2) (hk0:¬(k:Int)<0) (hm:(¬(600:Int)<(ln:Int)∧q=ln)∨((600:Int)<(ln:Int)∧q=600)) (hq:(q:Int)≤(lc:Int))
 (cX:∀w1,Lat w w1→w1.cell? ⟨v,2+k,none⟩=some (.pointer (some ⟨S,0,none⟩)))
 (o2:∀w1,Lat w w1→w1.cell? ⟨ob,2,none⟩=some (.int .i64 id))
 (o3:∀w1,Lat w w1→w1.cell? ⟨ob,3,none⟩=some (.string o))
 (o4:∀w1,Lat w w1→w1.cell? ⟨ob,4,none⟩=some (.slice la ln lc))
 (hc:∀w1,Lat w w1→Calls Tryz.prog 14 #[.pointer (some ⟨S,0,none⟩),.string o,.int .i64 id,.slice la q lc] w1 fun e w2=>e=.returned (.tuple #[.int .i64 ra,.int .i64 rc])∧Lat w1 w2)
 (hQ:∀(v39 v40 v41 v42 v43 v44 v45 v46 v47 v48 v49 v50 v51 v52 v53 v54 v55 v56 v38 v57 v58:Value) (w1:World),Lat w w1→Q .normal (((((((((((((((((((((((a0.put (some 39) v39).put (some 40) v40).put (some 41) v41).put (some 42) v42).put (some 43) v43).put (some 44) v44).put (some 45) v45).put (some 46) v46).put (some 47) v47).put (some 48) v48).put (some 49) v49).put (some 50) v50).put (some 51) v51).put (some 52) v52).put (some 53) v53).put (some 54) v54).put (some 55) v55).put (some 56) v56).put (some 38) v38).put (some 57) v57).put (some 58) v58).put (some 6) (.int .i64 ra)).put (some 7) (.int .i64 rc)) w1):
 Code.wp Tryz.prog ((Tryz.f10.body.bind (zag 6)).getD .skip) Q a0 w:=by
 conv=>arg 2;whnf
 refine zay Lat (TV [.pointer (some ⟨v,0,none⟩),.int .i64 (k:Int),.pointer (some ⟨v,0,none⟩),.pointer (some ⟨v,2,none⟩),.pointer (some ⟨v,2+k,none⟩),.pointer (some ⟨S,0,none⟩),.pointer (some ⟨ob,3,none⟩),.string o,.pointer (some ⟨ob,2,none⟩),.int .i64 id,.pointer (some ⟨ob,4,none⟩),.slice la ln lc,.pointer (some ⟨ob,4,none⟩),.slice la ln lc,.int .i64 (ln:Int),.int .i64 (q:Int),.slice la q lc,.tuple #[.int .i64 ra,.int .i64 rc],.tuple #[.int .i64 ra,.int .i64 rc],.int .i64 ra,.int .i64 rc,.int .i64 ra,.int .i64 rc]) (by kernel_rfl) (by kernel_rfl) (by kernel_rfl) (by rw [hsz];kernel_rfl) (by kernel_rfl) Lat.refl Lat.trans (TV.stable _) (Lat.draw w) ?hop ?hdone
 case hdone=>
  intro a w1 hL hS hT
  have k6:a.tmps.getD 6 undef=.int .i64 ra:=hT 21 _ rfl _ rfl
  have k7:a.tmps.getD 7 undef=.int .i64 rc:=hT 22 _ rfl _ rfl
  have he:=zam hS
  have hQ2:=hQ (a.tmps.getD 39 undef) (a.tmps.getD 40 undef) (a.tmps.getD 41 undef) (a.tmps.getD 42 undef) (a.tmps.getD 43 undef) (a.tmps.getD 44 undef) (a.tmps.getD 45 undef) (a.tmps.getD 46 undef) (a.tmps.getD 47 undef) (a.tmps.getD 48 undef) (a.tmps.getD 49 undef) (a.tmps.getD 50 undef) (a.tmps.getD 51 undef) (a.tmps.getD 52 undef) (a.tmps.getD 53 undef) (a.tmps.getD 54 undef) (a.tmps.getD 55 undef) (a.tmps.getD 56 undef) (a.tmps.getD 38 undef) (a.tmps.getD 57 undef) (a.tmps.getD 58 undef) w1 hL
  rw [←k6,←k7] at hQ2
  rw [he]
  exact hQ2
 case hop=>
  intro i o hi
  have hlt:i<23:=(Array.getElem?_eq_some_iff.1 hi).1
  rcases (show i=0∨i=1∨i=2∨i=3∨i=4∨i=5∨i=6∨i=7∨i=8∨i=9∨i=10∨i=11∨i=12∨i=13∨i=14∨i=15∨i=16∨i=17∨i=18∨i=19∨i=20∨i=21∨i=22 by omega) with rfl|rfl|rfl|rfl|rfl|rfl|rfl|rfl|rfl|rfl|rfl|rfl|rfl|rfl|rfl|rfl|rfl|rfl|rfl|rfl|rfl|rfl|rfl
  all_goals obtain rfl:=Option.some.inj hi
  all_goals clear hi hlt
  all_goals intro a w1 hL hS hD
  · exact zy rfl (by simp [execOp,Act.eval,zs hS s0,go_sem])
  · exact zy rfl (by simp [execOp,Act.eval,zs hS s5,go_sem])
  · exact zy rfl (by simp [execOp,Act.eval,zd hD 0 39,go_sem])
  · exact zy rfl (by simp [execOp,Act.eval,zd hD 2 41,go_sem])
  · exact zy rfl (by simp [execOp,Act.eval,zd hD 3 42,zd hD 1 40,hk3,hk0,go_sem])
  · exact zy rfl (by simp [execOp,Act.eval,zd hD 4 43,cX w1 hL,go_sem])
  · exact zy rfl (by simp [execOp,Act.eval,zs hS s3,go_sem])
  · exact zy rfl (by simp [execOp,Act.eval,zd hD 6 45,o3 w1 hL,go_sem])
  · exact zy rfl (by simp [execOp,Act.eval,zs hS s3,go_sem])
  · exact zy rfl (by simp [execOp,Act.eval,zd hD 8 47,o2 w1 hL,go_sem])
  · exact zy rfl (by simp [execOp,Act.eval,zs hS s3,go_sem])
  · exact zy rfl (by simp [execOp,Act.eval,zd hD 10 49,o4 w1 hL,go_sem])
  · exact zy rfl (by simp [execOp,Act.eval,zs hS s3,go_sem])
  · exact zy rfl (by simp [execOp,Act.eval,zd hD 12 51,o4 w1 hL,go_sem])
  · exact zy rfl (by simp [execOp,Act.eval,zd hD 13 52,go_sem])
  · have d14:=zd hD 14 53
    refine zat rfl ?_
    rcases hm with ⟨hm,rfl⟩|⟨hm,rfl⟩
    · exact zbu Lat.refl (.int .i64 (q:Int)) (by simp [execOp,Act.eval,d14,hm,go_sem]) (TV.mk rfl)
    exact zbu Lat.refl (.int .i64 ((600:Nat):Int)) (by simp [execOp,Act.eval,d14,hm,go_sem]) (TV.mk rfl)
  · exact zy rfl (by simp [execOp,Act.eval,zd hD 11 50,zd hD 15 54,hq,go_sem])
  · have d5:=zd hD 5 44
    have d7:=zd hD 7 46
    have d9:=zd hD 9 48
    have d16:=zd hD 16 55
    refine zat rfl ?_
    refine zbb (f:=14) (args:=#[.pointer (some ⟨S,0,none⟩),.string o,.int .i64 id,.slice la q lc]) (by simp [execOp,resolve,Act.eval,d5,d7,d9,d16,go_sem]) ?_
    refine (hc w1 hL).mono ?_
    rintro e w2 ⟨rfl,h2⟩
    exact ⟨_,rfl,h2,TV.mk rfl⟩
  · exact zy rfl (by simp [execOp,Act.eval,zd hD 17 56,go_sem])
  · exact zy rfl (by simp [execOp,Act.eval,zd hD 18 38,go_sem])
  · exact zy rfl (by simp [execOp,Act.eval,zd hD 18 38,go_sem])
  · exact zy rfl (by simp [execOp,Act.eval,zd hD 19 57,go_sem])
  exact zy rfl (by simp [execOp,Act.eval,zd hD 20 58,go_sem])
theorem st_r7 (v ob k ln lc q D:Nat) (la:Option Addr) (o:ByteArray) (id ra rc:Int) (w:World) (a0:Act) (Q:Exit→Act→World→Prop) (hsz:a0.tmps.size=275)
 (s0:a0.tmps.getD 0 undef=.pointer (some ⟨v,0,none⟩))
 (s3:a0.tmps.getD 3 undef=.pointer (some ⟨ob,0,none⟩))
 (s5:a0.tmps.getD 5 undef=.int .i64 (k:Int))
 (hk3:(k:Int)<2) (hk0:¬(k:Int)<0) (hm:(¬(600:Int)<(ln:Int)∧q=ln)∨((600:Int)<(ln:Int)∧q=600)) (hq:(q:Int)≤(lc:Int))
 (cX:∀w1,Lat w w1→w1.cell? ⟨v,6+k,none⟩=some (.pointer (some ⟨D,0,none⟩)))
 (o2:∀w1,Lat w w1→w1.cell? ⟨ob,2,none⟩=some (.int .i64 id))
 (o3:∀w1,Lat w w1→w1.cell? ⟨ob,3,none⟩=some (.string o))
 (o4:∀w1,Lat w w1→w1.cell? ⟨ob,4,none⟩=some (.slice la ln lc))
 (hc:∀w1,Lat w w1→Calls Tryz.prog 23 #[.pointer (some ⟨D,0,none⟩),.string o,.int .i64 id,.slice la q lc] w1 fun e w2=>e=.returned (.tuple #[.int .i64 ra,.int .i64 rc])∧Lat w1 w2)
 (hQ:∀(v60 v61 v62 v63 v64 v65 v66 v67 v68 v69 v70 v71 v72 v73 v74 v75 v76 v77 v59 v78 v79:Value) (w1:World),Lat w w1→Q .normal (((((((((((((((((((((((a0.put (some 60) v60).put (some 61) v61).put (some 62) v62).put (some 63) v63).put (some 64) v64).put (some 65) v65).put (some 66) v66).put (some 67) v67).put (some 68) v68).put (some 69) v69).put (some 70) v70).put (some 71) v71).put (some 72) v72).put (some 73) v73).put (some 74) v74).put (some 75) v75).put (some 76) v76).put (some 77) v77).put (some 59) v59).put (some 78) v78).put (some 79) v79).put (some 8) (.int .i64 ra)).put (some 9) (.int .i64 rc)) w1):
 Code.wp Tryz.prog ((Tryz.f10.body.bind (zag 7)).getD .skip) Q a0 w:=by
 conv=>arg 2;whnf
 refine zay Lat (TV [.pointer (some ⟨v,0,none⟩),.int .i64 (k:Int),.pointer (some ⟨v,0,none⟩),.pointer (some ⟨v,6,none⟩),.pointer (some ⟨v,6+k,none⟩),.pointer (some ⟨D,0,none⟩),.pointer (some ⟨ob,3,none⟩),.string o,.pointer (some ⟨ob,2,none⟩),.int .i64 id,.pointer (some ⟨ob,4,none⟩),.slice la ln lc,.pointer (some ⟨ob,4,none⟩),.slice la ln lc,.int .i64 (ln:Int),.int .i64 (q:Int),.slice la q lc,.tuple #[.int .i64 ra,.int .i64 rc],.tuple #[.int .i64 ra,.int .i64 rc],.int .i64 ra,.int .i64 rc,.int .i64 ra,.int .i64 rc]) (by kernel_rfl) (by kernel_rfl) (by kernel_rfl) (by rw [hsz];kernel_rfl) (by kernel_rfl) Lat.refl Lat.trans (TV.stable _) (Lat.draw w) ?hop ?hdone
 case hdone=>
  intro a w1 hL hS hT
  have k8:a.tmps.getD 8 undef=.int .i64 ra:=hT 21 _ rfl _ rfl
  have k9:a.tmps.getD 9 undef=.int .i64 rc:=hT 22 _ rfl _ rfl
  have he:=zam hS
  have hQ2:=hQ (a.tmps.getD 60 undef) (a.tmps.getD 61 undef) (a.tmps.getD 62 undef) (a.tmps.getD 63 undef) (a.tmps.getD 64 undef) (a.tmps.getD 65 undef) (a.tmps.getD 66 undef) (a.tmps.getD 67 undef) (a.tmps.getD 68 undef) (a.tmps.getD 69 undef) (a.tmps.getD 70 undef) (a.tmps.getD 71 undef) (a.tmps.getD 72 undef) (a.tmps.getD 73 undef) (a.tmps.getD 74 undef) (a.tmps.getD 75 undef) (a.tmps.getD 76 undef) (a.tmps.getD 77 undef) (a.tmps.getD 59 undef) (a.tmps.getD 78 undef) (a.tmps.getD 79 undef) w1 hL
  rw [←k8,←k9] at hQ2
  rw [he]
  exact hQ2
 case hop=>
  intro i o hi
  have hlt:i<23:=(Array.getElem?_eq_some_iff.1 hi).1
  rcases (show i=0∨i=1∨i=2∨i=3∨i=4∨i=5∨i=6∨i=7∨i=8∨i=9∨i=10∨i=11∨i=12∨i=13∨i=14∨i=15∨i=16∨i=17∨i=18∨i=19∨i=20∨i=21∨i=22 by omega) with rfl|rfl|rfl|rfl|rfl|rfl|rfl|rfl|rfl|rfl|rfl|rfl|rfl|rfl|rfl|rfl|rfl|rfl|rfl|rfl|rfl|rfl|rfl
  all_goals obtain rfl:=Option.some.inj hi
  all_goals clear hi hlt
  all_goals intro a w1 hL hS hD
  · exact zy rfl (by simp [execOp,Act.eval,zs hS s0,go_sem])
  · exact zy rfl (by simp [execOp,Act.eval,zs hS s5,go_sem])
  · exact zy rfl (by simp [execOp,Act.eval,zd hD 0 60,go_sem])
  · exact zy rfl (by simp [execOp,Act.eval,zd hD 2 62,go_sem])
  · exact zy rfl (by simp [execOp,Act.eval,zd hD 3 63,zd hD 1 61,hk3,hk0,go_sem])
  · exact zy rfl (by simp [execOp,Act.eval,zd hD 4 64,cX w1 hL,go_sem])
  · exact zy rfl (by simp [execOp,Act.eval,zs hS s3,go_sem])
  · exact zy rfl (by simp [execOp,Act.eval,zd hD 6 66,o3 w1 hL,go_sem])
  · exact zy rfl (by simp [execOp,Act.eval,zs hS s3,go_sem])
  · exact zy rfl (by simp [execOp,Act.eval,zd hD 8 68,o2 w1 hL,go_sem])
  · exact zy rfl (by simp [execOp,Act.eval,zs hS s3,go_sem])
  · exact zy rfl (by simp [execOp,Act.eval,zd hD 10 70,o4 w1 hL,go_sem])
  · exact zy rfl (by simp [execOp,Act.eval,zs hS s3,go_sem])
  · exact zy rfl (by simp [execOp,Act.eval,zd hD 12 72,o4 w1 hL,go_sem])
  · exact zy rfl (by simp [execOp,Act.eval,zd hD 13 73,go_sem])
  · have d14:=zd hD 14 74
    refine zat rfl ?_
    rcases hm with ⟨hm,rfl⟩|⟨hm,rfl⟩
    · exact zbu Lat.refl (.int .i64 (q:Int)) (by simp [execOp,Act.eval,d14,hm,go_sem]) (TV.mk rfl)
    exact zbu Lat.refl (.int .i64 ((600:Nat):Int)) (by simp [execOp,Act.eval,d14,hm,go_sem]) (TV.mk rfl)
  · exact zy rfl (by simp [execOp,Act.eval,zd hD 11 71,zd hD 15 75,hq,go_sem])
  · have d5:=zd hD 5 65
    have d7:=zd hD 7 67
    have d9:=zd hD 9 69
    have d16:=zd hD 16 76
    refine zat rfl ?_
    refine zbb (f:=23) (args:=#[.pointer (some ⟨D,0,none⟩),.string o,.int .i64 id,.slice la q lc]) (by simp [execOp,resolve,Act.eval,d5,d7,d9,d16,go_sem]) ?_
    refine (hc w1 hL).mono ?_
    rintro e w2 ⟨rfl,h2⟩
    exact ⟨_,rfl,h2,TV.mk rfl⟩
  · exact zy rfl (by simp [execOp,Act.eval,zd hD 17 77,go_sem])
  · exact zy rfl (by simp [execOp,Act.eval,zd hD 18 59,go_sem])
  · exact zy rfl (by simp [execOp,Act.eval,zd hD 18 59,go_sem])
  · exact zy rfl (by simp [execOp,Act.eval,zd hD 19 78,go_sem])
  exact zy rfl (by simp [execOp,Act.eval,zd hD 20 79,go_sem])
theorem st_r17 (v ob k PP S R D:Nat) (o:ByteArray) (x y:Int) (I:Nat→World→Prop) (w:World) (a0:Act) (Q:Exit→Act→World→Prop) (hsz:a0.tmps.size=275)
 (s0:a0.tmps.getD 0 undef=.pointer (some ⟨v,0,none⟩))
 (s3:a0.tmps.getD 3 undef=.pointer (some ⟨ob,0,none⟩))
 (s5:a0.tmps.getD 5 undef=.int .i64 (k:Int))
 (hk3:(k:Int)<2) (hk0:¬(k:Int)<0)
 (cP:∀w1,(∃k,k≤5∧I k w1)→w1.cell? ⟨v,k,none⟩=some (.pointer (some ⟨PP,0,none⟩)))
 (cS:∀w1,(∃k,k≤5∧I k w1)→w1.cell? ⟨v,2+k,none⟩=some (.pointer (some ⟨S,0,none⟩)))
 (cR:∀w1,(∃k,k≤5∧I k w1)→w1.cell? ⟨v,4+k,none⟩=some (.pointer (some ⟨R,0,none⟩)))
 (cD:∀w1,(∃k,k≤5∧I k w1)→w1.cell? ⟨v,6+k,none⟩=some (.pointer (some ⟨D,0,none⟩)))
 (o3:∀w1,(∃k,k≤5∧I k w1)→w1.cell? ⟨ob,3,none⟩=some (.string o))
 (h0:I 0 { w with drawn:=w.drawn+1 })
 (hC0:∀w1,I 0 w1→Calls Tryz.prog 20 #[.pointer (some ⟨S,0,none⟩),.string o] w1 fun e w2=>e=.returned (.int .i64 x)∧I 1 w2)
 (hC1:∀w1,I 1 w1→Calls Tryz.prog 31 #[.pointer (some ⟨D,0,none⟩),.string o] w1 fun e w2=>e=.returned (.int .i64 x)∧I 2 w2)
 (hC2:∀w1,I 2 w1→I 3 w1)
 (hC3:∀w1,I 3 w1→Calls Tryz.prog 19 #[.pointer (some ⟨PP,0,none⟩)] w1 fun e w2=>e=.returned (.int .i64 y)∧I 4 w2)
 (hC4:∀w1,I 4 w1→Calls Tryz.prog 27 #[.pointer (some ⟨R,0,none⟩)] w1 fun e w2=>e=.returned (.int .i64 y)∧I 5 w2)
 (hQ:∀(v174 v175 v176 v177 v178 v179 v180 v181 v182 v183 v184 v185 v186 v187 v188 v189 v190 v191 v192 v193 v194 v195 v196 v197 v198 v199 v200 v201 v202 v203 v204 v205 v206 v207 v208 v209:Value) (w2:World),I 5 w2→Q .normal (((((((((((((((((((((((((((((((((((((a0.put (some 174) v174).put (some 175) v175).put (some 176) v176).put (some 177) v177).put (some 178) v178).put (some 179) v179).put (some 180) v180).put (some 181) v181).put (some 182) v182).put (some 183) v183).put (some 184) v184).put (some 185) v185).put (some 186) v186).put (some 187) v187).put (some 188) v188).put (some 189) v189).put (some 190) v190).put (some 191) v191).put (some 192) v192).put (some 193) v193).put (some 194) v194).put (some 195) v195).put (some 196) v196).put (some 197) v197).put (some 198) v198).put (some 199) v199).put (some 200) v200).put (some 201) v201).put (some 202) v202).put (some 203) v203).put (some 204) v204).put (some 205) v205).put (some 206) v206).put (some 207) v207).put (some 208) v208).put (some 209) v209).put (some 4) (.bool true)) w2):
 Code.wp Tryz.prog ((Tryz.f10.body.bind (zag 17)).getD .skip) Q a0 w:=by
 conv=>arg 2;whnf
 refine zbj (fun i=>([.pointer (some ⟨v,0,none⟩),.int .i64 (k:Int),.pointer (some ⟨v,0,none⟩),.pointer (some ⟨v,2,none⟩),.pointer (some ⟨v,2+k,none⟩),.pointer (some ⟨S,0,none⟩),.pointer (some ⟨ob,3,none⟩),.string o,.int .i64 x,.pointer (some ⟨v,0,none⟩),.int .i64 (k:Int),.pointer (some ⟨v,0,none⟩),.pointer (some ⟨v,6,none⟩),.pointer (some ⟨v,6+k,none⟩),.pointer (some ⟨D,0,none⟩),.pointer (some ⟨ob,3,none⟩),.string o,.int .i64 x,.bool true,.bool true,.pointer (some ⟨v,0,none⟩),.int .i64 (k:Int),.pointer (some ⟨v,0,none⟩),.pointer (some ⟨v,0,none⟩),.pointer (some ⟨v,k,none⟩),.pointer (some ⟨PP,0,none⟩),.int .i64 y,.pointer (some ⟨v,0,none⟩),.int .i64 (k:Int),.pointer (some ⟨v,0,none⟩),.pointer (some ⟨v,4,none⟩),.pointer (some ⟨v,4+k,none⟩),.pointer (some ⟨R,0,none⟩),.int .i64 y,.bool true,.bool true,.bool true]:List Value).getD i undef) I (fun j=>([8,17,19,26,33]:List Nat).getD j 0) 5 (by kernel_rfl) (by kernel_rfl) (by kernel_rfl) (by rw [hsz];kernel_rfl) ?hinj ?hqs ?hwait h0 ?hop ?hcA ?hdone
 case hinj=>
  intro j k hj hk h
  rcases (show j=0∨j=1∨j=2∨j=3∨j=4 by omega) with rfl|rfl|rfl|rfl|rfl <;> rcases (show k=0∨k=1∨k=2∨k=3∨k=4 by omega) with rfl|rfl|rfl|rfl|rfl <;> first|rfl|exact absurd h (by decide)
 case hqs=>
  intro j hj
  rcases (show j=0∨j=1∨j=2∨j=3∨j=4 by omega) with rfl|rfl|rfl|rfl|rfl <;> exact of_decide_eq_true (by kernel_rfl)
 case hwait=>
  intro j hj oB hoB
  rcases (show j=0∨j=1∨j=2∨j=3 by omega) with rfl|rfl|rfl|rfl
  · obtain rfl:=Option.some.inj hoB
    exact ⟨⟨8,.chain⟩,by simp,rfl,rfl⟩
  · obtain rfl:=Option.some.inj hoB
    exact ⟨⟨17,.chain⟩,by simp,rfl,rfl⟩
  · obtain rfl:=Option.some.inj hoB
    exact ⟨⟨19,.chain⟩,by simp,rfl,rfl⟩
  obtain rfl:=Option.some.inj hoB
  exact ⟨⟨26,.chain⟩,by simp,rfl,rfl⟩
 case hdone=>
  intro a w1 hI hS hT
  have kl:a.tmps.getD 4 undef=.bool true:=hT 36 _ rfl
  have he:=zam hS
  have hQ2:=hQ (a.tmps.getD 174 undef) (a.tmps.getD 175 undef) (a.tmps.getD 176 undef) (a.tmps.getD 177 undef) (a.tmps.getD 178 undef) (a.tmps.getD 179 undef) (a.tmps.getD 180 undef) (a.tmps.getD 181 undef) (a.tmps.getD 182 undef) (a.tmps.getD 183 undef) (a.tmps.getD 184 undef) (a.tmps.getD 185 undef) (a.tmps.getD 186 undef) (a.tmps.getD 187 undef) (a.tmps.getD 188 undef) (a.tmps.getD 189 undef) (a.tmps.getD 190 undef) (a.tmps.getD 191 undef) (a.tmps.getD 192 undef) (a.tmps.getD 193 undef) (a.tmps.getD 194 undef) (a.tmps.getD 195 undef) (a.tmps.getD 196 undef) (a.tmps.getD 197 undef) (a.tmps.getD 198 undef) (a.tmps.getD 199 undef) (a.tmps.getD 200 undef) (a.tmps.getD 201 undef) (a.tmps.getD 202 undef) (a.tmps.getD 203 undef) (a.tmps.getD 204 undef) (a.tmps.getD 205 undef) (a.tmps.getD 206 undef) (a.tmps.getD 207 undef) (a.tmps.getD 208 undef) (a.tmps.getD 209 undef) w1 hI
  rw [←kl] at hQ2
  rw [he]
  exact hQ2
 case hcA=>
  intro k hk o ho
  rcases (show k=0∨k=1∨k=2∨k=3∨k=4 by omega) with rfl|rfl|rfl|rfl|rfl
  · obtain rfl:=Option.some.inj ho
    intro a w1 hI hS hD
    have d5:a.tmps.getD 179 undef=.pointer (some ⟨S,0,none⟩):=hD ⟨5,.data⟩ (by simp) rfl _ rfl
    have d7:a.tmps.getD 181 undef=.string o:=hD ⟨7,.data⟩ (by simp) rfl _ rfl
    refine ⟨rfl,?_⟩
    refine zaz (f:=20) (args:=#[.pointer (some ⟨S,0,none⟩),.string o]) (by simp [execOp,resolve,Act.eval,d5,d7,go_sem]) ?_
    refine (hC0 w1 hI).mono ?_
    rintro e w2 ⟨rfl,h2⟩
    exact ⟨_,rfl,_,rfl,h2,rfl⟩
  · obtain rfl:=Option.some.inj ho
    intro a w1 hI hS hD
    have d14:a.tmps.getD 188 undef=.pointer (some ⟨D,0,none⟩):=hD ⟨14,.data⟩ (by simp) rfl _ rfl
    have d16:a.tmps.getD 190 undef=.string o:=hD ⟨16,.data⟩ (by simp) rfl _ rfl
    refine ⟨rfl,?_⟩
    refine zaz (f:=31) (args:=#[.pointer (some ⟨D,0,none⟩),.string o]) (by simp [execOp,resolve,Act.eval,d14,d16,go_sem]) ?_
    refine (hC1 w1 hI).mono ?_
    rintro e w2 ⟨rfl,h2⟩
    exact ⟨_,rfl,_,rfl,h2,rfl⟩
  · obtain rfl:=Option.some.inj ho
    intro a w1 hI hS hD
    have d18:a.tmps.getD 192 undef=.bool true:=hD ⟨18,.data⟩ (by simp) rfl _ rfl
    exact ⟨rfl,za1 (.bool true) (by simp [execOp,Act.eval,d18,go_sem]) ⟨_,rfl,hC2 w1 hI,rfl⟩⟩
  · obtain rfl:=Option.some.inj ho
    intro a w1 hI hS hD
    have d19:a.tmps.getD 193 undef=.bool true:=hD ⟨19,.guard⟩ (by simp) rfl _ rfl
    have d25:a.tmps.getD 199 undef=.pointer (some ⟨PP,0,none⟩):=hD ⟨25,.data⟩ (by simp) rfl _ rfl
    refine ⟨(zas rfl rfl rfl d19),?_⟩
    refine zaz (f:=19) (args:=#[.pointer (some ⟨PP,0,none⟩)]) (by simp [execOp,resolve,Act.eval,d25,go_sem]) ?_
    refine (hC3 w1 hI).mono ?_
    rintro e w2 ⟨rfl,h2⟩
    exact ⟨_,rfl,_,rfl,h2,rfl⟩
  obtain rfl:=Option.some.inj ho
  intro a w1 hI hS hD
  have d19:a.tmps.getD 193 undef=.bool true:=hD ⟨19,.guard⟩ (by simp) rfl _ rfl
  have d32:a.tmps.getD 206 undef=.pointer (some ⟨R,0,none⟩):=hD ⟨32,.data⟩ (by simp) rfl _ rfl
  refine ⟨(zas rfl rfl rfl d19),?_⟩
  refine zaz (f:=27) (args:=#[.pointer (some ⟨R,0,none⟩)]) (by simp [execOp,resolve,Act.eval,d32,go_sem]) ?_
  refine (hC4 w1 hI).mono ?_
  rintro e w2 ⟨rfl,h2⟩
  exact ⟨_,rfl,_,rfl,h2,rfl⟩
 case hop=>
  intro i o hi hn
  have hlt:i<37:=(Array.getElem?_eq_some_iff.1 hi).1
  rcases (show i=0∨i=1∨i=2∨i=3∨i=4∨i=5∨i=6∨i=7∨i=8∨i=9∨i=10∨i=11∨i=12∨i=13∨i=14∨i=15∨i=16∨i=17∨i=18∨i=19∨i=20∨i=21∨i=22∨i=23∨i=24∨i=25∨i=26∨i=27∨i=28∨i=29∨i=30∨i=31∨i=32∨i=33∨i=34∨i=35∨i=36 by omega) with rfl|rfl|rfl|rfl|rfl|rfl|rfl|rfl|rfl|rfl|rfl|rfl|rfl|rfl|rfl|rfl|rfl|rfl|rfl|rfl|rfl|rfl|rfl|rfl|rfl|rfl|rfl|rfl|rfl|rfl|rfl|rfl|rfl|rfl|rfl|rfl|rfl
  all_goals first|exact absurd rfl (hn 0 (by omega))|exact absurd rfl (hn 1 (by omega))|exact absurd rfl (hn 2 (by omega))|exact absurd rfl (hn 3 (by omega))|exact absurd rfl (hn 4 (by omega))|skip
  all_goals obtain rfl:=Option.some.inj hi
  all_goals clear hi hlt hn
  all_goals intro a w1 hI hS hD
  · exact zc rfl (by simp [execOp,Act.eval,zs hS s0,go_sem])
  · exact zc rfl (by simp [execOp,Act.eval,zs hS s5,go_sem])
  · exact zc rfl (by simp [execOp,Act.eval,zdc hD 0 174,go_sem])
  · exact zc rfl (by simp [execOp,Act.eval,zdc hD 2 176,go_sem])
  · exact zc rfl (by simp [execOp,Act.eval,zdc hD 3 177,zdc hD 1 175,hk3,hk0,go_sem])
  · exact zc rfl (by simp [execOp,Act.eval,zdc hD 4 178,cS w1 hI,go_sem])
  · exact zc rfl (by simp [execOp,Act.eval,zs hS s3,go_sem])
  · exact zc rfl (by simp [execOp,Act.eval,zdc hD 6 180,o3 w1 hI,go_sem])
  · exact zc rfl (by simp [execOp,Act.eval,zs hS s0,go_sem])
  · exact zc rfl (by simp [execOp,Act.eval,zs hS s5,go_sem])
  · exact zc rfl (by simp [execOp,Act.eval,zdc hD 9 183,go_sem])
  · exact zc rfl (by simp [execOp,Act.eval,zdc hD 11 185,go_sem])
  · exact zc rfl (by simp [execOp,Act.eval,zdc hD 12 186,zdc hD 10 184,hk3,hk0,go_sem])
  · exact zc rfl (by simp [execOp,Act.eval,zdc hD 13 187,cD w1 hI,go_sem])
  · exact zc rfl (by simp [execOp,Act.eval,zs hS s3,go_sem])
  · exact zc rfl (by simp [execOp,Act.eval,zdc hD 15 189,o3 w1 hI,go_sem])
  · exact zc rfl (by simp [execOp,Act.eval,zdc hD 8 182,zdc hD 17 191,go_sem])
  · exact zcg (zgc hD 19 193) rfl (by simp [execOp,Act.eval,zs hS s0,go_sem])
  · exact zcg (zgc hD 19 193) rfl (by simp [execOp,Act.eval,zs hS s5,go_sem])
  · exact zcg (zgc hD 19 193) rfl (by simp [execOp,Act.eval,zdc hD 20 194,go_sem])
  · exact zcg (zgc hD 19 193) rfl (by simp [execOp,Act.eval,zdc hD 22 196,go_sem])
  · exact zcg (zgc hD 19 193) rfl (by simp [execOp,Act.eval,zdc hD 23 197,zdc hD 21 195,hk3,hk0,go_sem])
  · exact zcg (zgc hD 19 193) rfl (by simp [execOp,Act.eval,zdc hD 24 198,cP w1 hI,go_sem])
  · exact zcg (zgc hD 19 193) rfl (by simp [execOp,Act.eval,zs hS s0,go_sem])
  · exact zcg (zgc hD 19 193) rfl (by simp [execOp,Act.eval,zs hS s5,go_sem])
  · exact zcg (zgc hD 19 193) rfl (by simp [execOp,Act.eval,zdc hD 27 201,go_sem])
  · exact zcg (zgc hD 19 193) rfl (by simp [execOp,Act.eval,zdc hD 29 203,go_sem])
  · exact zcg (zgc hD 19 193) rfl (by simp [execOp,Act.eval,zdc hD 30 204,zdc hD 28 202,hk3,hk0,go_sem])
  · exact zcg (zgc hD 19 193) rfl (by simp [execOp,Act.eval,zdc hD 31 205,cR w1 hI,go_sem])
  · exact zcg (zgc hD 19 193) rfl (by simp [execOp,Act.eval,zdc hD 26 200,zdc hD 33 207,go_sem])
  · exact zc rfl (by simp [execOp,Act.eval,zdc hD 19 193,zdc hD 34 208,go_sem])
  exact zc rfl (by simp [execOp,Act.eval,zdc hD 35 209,go_sem])
def ClE (PP:World→Option Addr→Nat→Nat→Prop) (hPP:∀w w' ad n c,PP w ad n c→Lat w w'→PP w' ad n c):Ent Lat:=⟨fun v w=>∃ad n c,v=.slice ad n c∧PP w ad n c,fun v w w' h k=>by
 obtain ⟨ad,n,c,e,h2⟩:=h
 exact ⟨ad,n,c,e,hPP _ _ _ _ _ h2 k⟩⟩
theorem st_r19 (v ob k D:Nat) (o:ByteArray) (id f:Int) (R:Value→World→Prop) (w:World) (a0:Act) (Q:Exit→Act→World→Prop) (hsz:a0.tmps.size=275)
 (s0:a0.tmps.getD 0 undef=.pointer (some ⟨v,0,none⟩))
 (s3:a0.tmps.getD 3 undef=.pointer (some ⟨ob,0,none⟩))
 (s5:a0.tmps.getD 5 undef=.int .i64 (k:Int))
 (hk3:(k:Int)<2) (hk0:¬(k:Int)<0)
 (PP:World→Option Addr→Nat→Nat→Prop) (hPP:∀w w' ad n c,PP w ad n c→Lat w w'→PP w' ad n c)
 (cD:∀w1,Lat w w1→w1.cell? ⟨v,6+k,none⟩=some (.pointer (some ⟨D,0,none⟩)))
 (o2:∀w1,Lat w w1→w1.cell? ⟨ob,2,none⟩=some (.int .i64 id))
 (o3:∀w1,Lat w w1→w1.cell? ⟨ob,3,none⟩=some (.string o))
 (o5:∀w1,Lat w w1→w1.cell? ⟨ob,5,none⟩=some (.int .i64 f))
 (h32:∀w1,Lat w w1→Calls Tryz.prog 32 #[.pointer (some ⟨D,0,none⟩),.string o,.int .i64 id] w1 fun e w2=>∃ad n c,e=.returned (.slice ad n c)∧Lat w1 w2∧PP w2 ad n c)
 (hcall:∀w1,Lat w w1→∀(ad:Option Addr) (n c:Nat),PP w1 ad n c→Calls Tryz.prog 30 #[.pointer (some ⟨v,0,none⟩),.int .i64 (k:Int),.string o,.int .i64 f,.slice ad n c] w1 fun e w2=>∃x,e=.returned x∧R x w2)
 (hQ:∀(v212 v213 v214 v215 v216 v217 v218 v219 v220 v221 v222 v223 v224 v225 v226 v227 v228 v229 v4:Value) (x:Value) (w2:World),R x w2→Q .normal (((((((((((((((((((((a0.put (some 212) v212).put (some 213) v213).put (some 214) v214).put (some 215) v215).put (some 216) v216).put (some 217) v217).put (some 218) v218).put (some 219) v219).put (some 220) v220).put (some 221) v221).put (some 222) v222).put (some 223) v223).put (some 224) v224).put (some 225) v225).put (some 226) v226).put (some 227) v227).put (some 228) v228).put (some 229) v229).put (some 4) v4).put (some 229) (x)).put (some 4) (x)) w2):
 Code.wp Tryz.prog ((Tryz.f10.body.bind (zag 19)).getD .skip) Q a0 w:=by
 conv=>arg 2;whnf
 refine zba 17 Lat (TE [Ent.val (.pointer (some ⟨v,0,none⟩)),Ent.val (.int .i64 (k:Int)),Ent.val (.pointer (some ⟨ob,3,none⟩)),Ent.val (.string o),Ent.val (.pointer (some ⟨ob,5,none⟩)),Ent.val (.int .i64 f),Ent.val (.pointer (some ⟨v,0,none⟩)),Ent.val (.int .i64 (k:Int)),Ent.val (.pointer (some ⟨v,0,none⟩)),Ent.val (.pointer (some ⟨v,6,none⟩)),Ent.val (.pointer (some ⟨v,6+k,none⟩)),Ent.val (.pointer (some ⟨D,0,none⟩)),Ent.val (.pointer (some ⟨ob,3,none⟩)),Ent.val (.string o),Ent.val (.pointer (some ⟨ob,2,none⟩)),Ent.val (.int .i64 id),ClE PP hPP]) (by kernel_rfl) (by kernel_rfl) (by kernel_rfl) (by rw [hsz];kernel_rfl) (by kernel_rfl) (by kernel_rfl) Lat.refl Lat.trans (za4 _) (Lat.draw w) ?hop ?hlast
 case hlast=>
  intro a w1 hL hS hT
  have k212:a.tmps.getD 212 undef=.pointer (some ⟨v,0,none⟩):=hT 0 _ (by omega) rfl
  have k213:a.tmps.getD 213 undef=.int .i64 (k:Int):=hT 1 _ (by omega) rfl
  have k215:a.tmps.getD 215 undef=.string o:=hT 3 _ (by omega) rfl
  have k217:a.tmps.getD 217 undef=.int .i64 f:=hT 5 _ (by omega) rfl
  have kk228:=hT 16 _ (by omega) rfl
  obtain ⟨ad,n,c,k228,kP⟩:=kk228
  have k228:a.tmps.getD 228 undef=.slice ad n c:=k228
  refine za6 17 _ rfl rfl (by kernel_rfl) ?_
  refine zaz (f:=30) (args:=#[.pointer (some ⟨v,0,none⟩),.int .i64 (k:Int),.string o,.int .i64 f,.slice ad n c]) (by simp [execOp,resolve,Act.eval,k212,k213,k215,k217,k228,go_sem]) ?_
  refine (hcall w1 hL ad n c kP).mono ?_
  rintro e w2 ⟨x,rfl,hR⟩
  refine ⟨x,rfl,?_⟩
  show wpAny Tryz.prog .any _ Q _ _ (a.put (some 229) (x)) w2
  obtain ⟨fr1,hfr1⟩:∃y,a.put (some 229) (x)=y:=⟨_,rfl⟩
  rw [hfr1]
  have zfr1:fr1.tmps.size=275:=by rw [←hfr1,zbh];exact (hS.size.trans hsz)
  have c1_212:fr1.tmps.getD 212 undef=.pointer (some ⟨v,0,none⟩):=by rw [←hfr1];exact (zad _ 229 212 _ (by decide)).trans k212
  have c1_213:fr1.tmps.getD 213 undef=.int .i64 (k:Int):=by rw [←hfr1];exact (zad _ 229 213 _ (by decide)).trans k213
  have c1_215:fr1.tmps.getD 215 undef=.string o:=by rw [←hfr1];exact (zad _ 229 215 _ (by decide)).trans k215
  have c1_217:fr1.tmps.getD 217 undef=.int .i64 f:=by rw [←hfr1];exact (zad _ 229 217 _ (by decide)).trans k217
  have c1_228:fr1.tmps.getD 228 undef=.slice ad n c:=by rw [←hfr1];exact (zad _ 229 228 _ (by decide)).trans k228
  have c1_229:fr1.tmps.getD 229 undef=x:=by rw [←hfr1];exact za7 _ 229 _ (by rw [(hS.size.trans hsz)];decide)
  refine za6 18 _ rfl rfl (by kernel_rfl) ?_
  refine za1 (x) (w':=w2) (by simp only [Array.getD_eq_getD_getElem?] at c1_229;simp [execOp,Act.eval,c1_229,go_sem]) ?_
  show wpAny Tryz.prog .any _ Q _ _ (fr1.put (some 4) (x)) w2
  obtain ⟨fr2,hfr2⟩:∃y,fr1.put (some 4) (x)=y:=⟨_,rfl⟩
  rw [hfr2]
  have zfr2:fr2.tmps.size=275:=by rw [←hfr2,zbh];exact zfr1
  have c2_212:fr2.tmps.getD 212 undef=.pointer (some ⟨v,0,none⟩):=by rw [←hfr2];exact (zad _ 4 212 _ (by decide)).trans c1_212
  have c2_213:fr2.tmps.getD 213 undef=.int .i64 (k:Int):=by rw [←hfr2];exact (zad _ 4 213 _ (by decide)).trans c1_213
  have c2_215:fr2.tmps.getD 215 undef=.string o:=by rw [←hfr2];exact (zad _ 4 215 _ (by decide)).trans c1_215
  have c2_217:fr2.tmps.getD 217 undef=.int .i64 f:=by rw [←hfr2];exact (zad _ 4 217 _ (by decide)).trans c1_217
  have c2_228:fr2.tmps.getD 228 undef=.slice ad n c:=by rw [←hfr2];exact (zad _ 4 228 _ (by decide)).trans c1_228
  have c2_229:fr2.tmps.getD 229 undef=x:=by rw [←hfr2];exact (zad _ 4 229 _ (by decide)).trans c1_229
  have c2_4:fr2.tmps.getD 4 undef=x:=by rw [←hfr2];exact za7 _ 4 _ (by rw [zfr1];decide)
  refine zb2 (by kernel_rfl) ?_
  show Q .normal _ w2
  rw [←hfr2,←hfr1]
  rw [zam hS]
  exact hQ (a.tmps.getD 212 undef) (a.tmps.getD 213 undef) (a.tmps.getD 214 undef) (a.tmps.getD 215 undef) (a.tmps.getD 216 undef) (a.tmps.getD 217 undef) (a.tmps.getD 218 undef) (a.tmps.getD 219 undef) (a.tmps.getD 220 undef) (a.tmps.getD 221 undef) (a.tmps.getD 222 undef) (a.tmps.getD 223 undef) (a.tmps.getD 224 undef) (a.tmps.getD 225 undef) (a.tmps.getD 226 undef) (a.tmps.getD 227 undef) (a.tmps.getD 228 undef) (a.tmps.getD 229 undef) (a.tmps.getD 4 undef) x w2 hR
 case hop=>
  intro i o hlt hi
  rcases (show i=0∨i=1∨i=2∨i=3∨i=4∨i=5∨i=6∨i=7∨i=8∨i=9∨i=10∨i=11∨i=12∨i=13∨i=14∨i=15∨i=16 by omega) with rfl|rfl|rfl|rfl|rfl|rfl|rfl|rfl|rfl|rfl|rfl|rfl|rfl|rfl|rfl|rfl|rfl
  all_goals obtain rfl:=Option.some.inj hi
  all_goals clear hi hlt
  all_goals intro a w1 hL hS hD
  · exact zye rfl (by simp [execOp,Act.eval,zs hS s0,go_sem])
  · exact zye rfl (by simp [execOp,Act.eval,zs hS s5,go_sem])
  · exact zye rfl (by simp [execOp,Act.eval,zs hS s3,go_sem])
  · exact zye rfl (by simp [execOp,Act.eval,zde hD 2 214,o3 w1 hL,go_sem])
  · exact zye rfl (by simp [execOp,Act.eval,zs hS s3,go_sem])
  · exact zye rfl (by simp [execOp,Act.eval,zde hD 4 216,o5 w1 hL,go_sem])
  · exact zye rfl (by simp [execOp,Act.eval,zs hS s0,go_sem])
  · exact zye rfl (by simp [execOp,Act.eval,zs hS s5,go_sem])
  · exact zye rfl (by simp [execOp,Act.eval,zde hD 6 218,go_sem])
  · exact zye rfl (by simp [execOp,Act.eval,zde hD 8 220,go_sem])
  · exact zye rfl (by simp [execOp,Act.eval,zde hD 9 221,zde hD 7 219,hk3,hk0,go_sem])
  · exact zye rfl (by simp [execOp,Act.eval,zde hD 10 222,cD w1 hL,go_sem])
  · exact zye rfl (by simp [execOp,Act.eval,zs hS s3,go_sem])
  · exact zye rfl (by simp [execOp,Act.eval,zde hD 12 224,o3 w1 hL,go_sem])
  · exact zye rfl (by simp [execOp,Act.eval,zs hS s3,go_sem])
  · exact zye rfl (by simp [execOp,Act.eval,zde hD 14 226,o2 w1 hL,go_sem])
  have d11:=zde hD 11 223
  have d13:=zde hD 13 225
  have d15:=zde hD 15 227
  refine zat rfl ?_
  refine zbb (f:=32) (args:=#[.pointer (some ⟨D,0,none⟩),.string o,.int .i64 id]) (by simp [execOp,resolve,Act.eval,d11,d13,d15,go_sem]) ?_
  refine (h32 w1 hL).mono ?_
  rintro e w2 ⟨ad,n,c,rfl,h2,h3⟩
  exact ⟨_,rfl,h2,ad,n,c,rfl,h3⟩
theorem st_r28 (ob gl off ln lc i m xb:Nat) (x:Int) (w:World) (a0:Act) (Q:Exit→Act→World→Prop) (hsz:a0.tmps.size=275)
 (s3:a0.tmps.getD 3 undef=.pointer (some ⟨ob,0,none⟩))
 (s13:a0.tmps.getD 13 undef=.int .i64 (i:Int))
 (s14:a0.tmps.getD 14 undef=.pointer (some ⟨xb,0,none⟩))
 (hln:¬ln=0) (hrem:(i:Int).tmod (ln:Int)=(m:Int)) (hm:(m:Int)<(ln:Int)) (hm0:¬(m:Int)<0) (cof53:Tryz.prog.cellsOf 53=2)
 (o4:∀w1,Lat w w1→w1.cell? ⟨ob,4,none⟩=some (.slice (some ⟨gl,off,none⟩) ln lc))
 (lx:∀w1,Lat w w1→w1.cell? ⟨gl,off+m*2+1,none⟩=some (.int .u64 x))
 (u:Value) (hcell:∀w1,Lat w w1→w1.cell? ⟨xb,1,none⟩=some u) (hfrz:∀w1,Lat w w1→w1.frozen? ⟨xb,1,none⟩=false)
 (hQ:∀(v250 v251 v252 v253 v254 v255 v256 v257 v258 v259 v260:Value) (w1:World),Lat w w1→Q .normal (((((((((((a0.put (some 250) v250).put (some 251) v251).put (some 252) v252).put (some 253) v253).put (some 254) v254).put (some 255) v255).put (some 256) v256).put (some 257) v257).put (some 258) v258).put (some 259) v259).put (some 260) v260) (w1.setCell ⟨xb,1,none⟩ (.int .u64 x))):
 Code.wp Tryz.prog ((Tryz.f10.body.bind (zag 28)).getD .skip) Q a0 w:=by
 conv=>arg 2;whnf
 refine zbf 11 Lat (TV [.pointer (some ⟨ob,4,none⟩),.slice (some ⟨gl,off,none⟩) ln lc,.int .i64 (i:Int),.pointer (some ⟨ob,4,none⟩),.slice (some ⟨gl,off,none⟩) ln lc,.int .i64 (ln:Int),.int .i64 (m:Int),.pointer (some ⟨gl,off+m*2,none⟩),.pointer (some ⟨gl,off+m*2+1,none⟩),.int .u64 x,.pointer (some ⟨xb,1,none⟩)]) (by kernel_rfl) (by kernel_rfl) (by kernel_rfl) (by rw [hsz];kernel_rfl) (by kernel_rfl) (by kernel_rfl) Lat.refl Lat.trans (TV.stable _) (Lat.draw w) ?hop ?hlast
 case hlast=>
  intro o a w1 ho hL hS hT
  obtain rfl:=Option.some.inj ho
  have he:=zam hS
  have hQ2:=hQ (a.tmps.getD 250 undef) (a.tmps.getD 251 undef) (a.tmps.getD 252 undef) (a.tmps.getD 253 undef) (a.tmps.getD 254 undef) (a.tmps.getD 255 undef) (a.tmps.getD 256 undef) (a.tmps.getD 257 undef) (a.tmps.getD 258 undef) (a.tmps.getD 259 undef) (a.tmps.getD 260 undef) w1 hL
  have dA:a.tmps.getD 260 undef=.pointer (some ⟨xb,1,none⟩):=hT 10 _ (by omega) rfl _ rfl
  have dV:a.tmps.getD 259 undef=.int .u64 x:=hT 9 _ (by omega) rfl _ rfl
  have hc1:=hcell w1 hL
  have hf1:=hfrz w1 hL
  unfold Oper.wp
  simp [execOp,Act.eval,dA,dV,hc1,hf1,Result.andThen,go_sem]
  show Q .normal a _
  rw [he]
  exact hQ2
 case hop=>
  intro i o hlt hi
  rcases (show i=0∨i=1∨i=2∨i=3∨i=4∨i=5∨i=6∨i=7∨i=8∨i=9∨i=10 by omega) with rfl|rfl|rfl|rfl|rfl|rfl|rfl|rfl|rfl|rfl|rfl
  all_goals obtain rfl:=Option.some.inj hi
  all_goals clear hi hlt
  all_goals intro a w1 hL hS hD
  · exact zy rfl (by simp [execOp,Act.eval,zs hS s3,go_sem])
  · exact zy rfl (by simp [execOp,Act.eval,zd hD 0 250,o4 w1 hL,go_sem])
  · exact zy rfl (by simp [execOp,Act.eval,zs hS s13,go_sem])
  · exact zy rfl (by simp [execOp,Act.eval,zs hS s3,go_sem])
  · exact zy rfl (by simp [execOp,Act.eval,zd hD 3 253,o4 w1 hL,go_sem])
  · exact zy rfl (by simp [execOp,Act.eval,zd hD 4 254,go_sem])
  · exact zy rfl (by simp [execOp,Act.eval,zd hD 2 252,zd hD 5 255,hln,hrem,go_sem])
  · exact zy rfl (by simp [execOp,Act.eval,zd hD 1 251,zd hD 6 256,hm,hm0,cof53,go_sem])
  · exact zy rfl (by simp [execOp,Act.eval,zd hD 7 257,go_sem])
  · exact zy rfl (by simp [execOp,Act.eval,zd hD 8 258,lx w1 hL,go_sem])
  exact zy rfl (by simp [execOp,Act.eval,zs hS s14,go_sem])
theorem st_r13 (v ob k PP S R D:Nat) (o:ByteArray) (x y z:Int) (w:World) (a0:Act) (Q:Exit→Act→World→Prop) (hsz:a0.tmps.size=275)
 (s0:a0.tmps.getD 0 undef=.pointer (some ⟨v,0,none⟩))
 (s3:a0.tmps.getD 3 undef=.pointer (some ⟨ob,0,none⟩))
 (s5:a0.tmps.getD 5 undef=.int .i64 (k:Int))
 (s10:a0.tmps.getD 10 undef=.bool true)
 (hk3:(k:Int)<2) (hk0:¬(k:Int)<0)
 (o3:∀w1,Lat w w1→w1.cell? ⟨ob,3,none⟩=some (.string o))
 (cP:∀w1,Lat w w1→w1.cell? ⟨v,k,none⟩=some (.pointer (some ⟨PP,0,none⟩)))
 (cS:∀w1,Lat w w1→w1.cell? ⟨v,2+k,none⟩=some (.pointer (some ⟨S,0,none⟩)))
 (cR:∀w1,Lat w w1→w1.cell? ⟨v,4+k,none⟩=some (.pointer (some ⟨R,0,none⟩)))
 (cD:∀w1,Lat w w1→w1.cell? ⟨v,6+k,none⟩=some (.pointer (some ⟨D,0,none⟩)))
 (h18:∀w1,Lat w w1→Calls Tryz.prog 18 #[.pointer (some ⟨S,0,none⟩),.string o] w1 fun e w2=>e=.returned (.int .i64 x)∧Lat w1 w2)
 (h26:∀w1,Lat w w1→Calls Tryz.prog 26 #[.pointer (some ⟨D,0,none⟩),.string o] w1 fun e w2=>e=.returned (.int .i64 x)∧Lat w1 w2)
 (h19:∀w1,Lat w w1→Calls Tryz.prog 19 #[.pointer (some ⟨PP,0,none⟩)] w1 fun e w2=>e=.returned (.int .i64 y)∧Lat w1 w2)
 (h27:∀w1,Lat w w1→Calls Tryz.prog 27 #[.pointer (some ⟨R,0,none⟩)] w1 fun e w2=>e=.returned (.int .i64 y)∧Lat w1 w2)
 (h28:∀w1,Lat w w1→Calls Tryz.prog 28 #[.pointer (some ⟨PP,0,none⟩),.string o] w1 fun e w2=>e=.returned (.int .i64 z)∧Lat w1 w2)
 (h29:∀w1,Lat w w1→Calls Tryz.prog 29 #[.pointer (some ⟨R,0,none⟩),.string o] w1 fun e w2=>e=.returned (.int .i64 z)∧Lat w1 w2)
 (hQ:∀(v101 v102 v103 v104 v105 v106 v107 v108 v109 v110 v111 v112 v113 v114 v115 v116 v117 v118 v119 v120 v121 v122 v123 v124 v125 v126 v127 v128 v129 v130 v131 v132 v133 v134 v135 v136 v137 v138 v139 v140 v141 v142 v143 v144 v145 v146 v147 v148 v149 v150 v151 v152 v153 v154 v155 v156 v157 v158 v159 v160:Value) (w1:World),Lat w w1→Q .normal (((((((((((((((((((((((((((((((((((((((((((((((((((((((((((((a0.put (some 101) v101).put (some 102) v102).put (some 103) v103).put (some 104) v104).put (some 105) v105).put (some 106) v106).put (some 107) v107).put (some 108) v108).put (some 109) v109).put (some 110) v110).put (some 111) v111).put (some 112) v112).put (some 113) v113).put (some 114) v114).put (some 115) v115).put (some 116) v116).put (some 117) v117).put (some 118) v118).put (some 119) v119).put (some 120) v120).put (some 121) v121).put (some 122) v122).put (some 123) v123).put (some 124) v124).put (some 125) v125).put (some 126) v126).put (some 127) v127).put (some 128) v128).put (some 129) v129).put (some 130) v130).put (some 131) v131).put (some 132) v132).put (some 133) v133).put (some 134) v134).put (some 135) v135).put (some 136) v136).put (some 137) v137).put (some 138) v138).put (some 139) v139).put (some 140) v140).put (some 141) v141).put (some 142) v142).put (some 143) v143).put (some 144) v144).put (some 145) v145).put (some 146) v146).put (some 147) v147).put (some 148) v148).put (some 149) v149).put (some 150) v150).put (some 151) v151).put (some 152) v152).put (some 153) v153).put (some 154) v154).put (some 155) v155).put (some 156) v156).put (some 157) v157).put (some 158) v158).put (some 159) v159).put (some 160) v160).put (some 4) (.bool true)) w1):
 Code.wp Tryz.prog ((Tryz.f10.body.bind (zag 13)).getD .skip) Q a0 w:=by
 conv=>arg 2;whnf
 refine zay Lat (TV [.bool true,.bool true,.pointer (some ⟨v,0,none⟩),.int .i64 (k:Int),.pointer (some ⟨v,0,none⟩),.pointer (some ⟨v,2,none⟩),.pointer (some ⟨v,2+k,none⟩),.pointer (some ⟨S,0,none⟩),.pointer (some ⟨ob,3,none⟩),.string o,.int .i64 x,.pointer (some ⟨v,0,none⟩),.int .i64 (k:Int),.pointer (some ⟨v,0,none⟩),.pointer (some ⟨v,6,none⟩),.pointer (some ⟨v,6+k,none⟩),.pointer (some ⟨D,0,none⟩),.pointer (some ⟨ob,3,none⟩),.string o,.int .i64 x,.bool true,.bool true,.bool true,.pointer (some ⟨v,0,none⟩),.int .i64 (k:Int),.pointer (some ⟨v,0,none⟩),.pointer (some ⟨v,0,none⟩),.pointer (some ⟨v,k,none⟩),.pointer (some ⟨PP,0,none⟩),.int .i64 y,.pointer (some ⟨v,0,none⟩),.int .i64 (k:Int),.pointer (some ⟨v,0,none⟩),.pointer (some ⟨v,4,none⟩),.pointer (some ⟨v,4+k,none⟩),.pointer (some ⟨R,0,none⟩),.int .i64 y,.bool true,.bool true,.bool true,.pointer (some ⟨v,0,none⟩),.int .i64 (k:Int),.pointer (some ⟨v,0,none⟩),.pointer (some ⟨v,0,none⟩),.pointer (some ⟨v,k,none⟩),.pointer (some ⟨PP,0,none⟩),.pointer (some ⟨ob,3,none⟩),.string o,.int .i64 z,.pointer (some ⟨v,0,none⟩),.int .i64 (k:Int),.pointer (some ⟨v,0,none⟩),.pointer (some ⟨v,4,none⟩),.pointer (some ⟨v,4+k,none⟩),.pointer (some ⟨R,0,none⟩),.pointer (some ⟨ob,3,none⟩),.string o,.int .i64 z,.bool true,.bool true,.bool true]) (by kernel_rfl) (by kernel_rfl) (by kernel_rfl) (by rw [hsz];kernel_rfl) (by kernel_rfl) Lat.refl Lat.trans (TV.stable _) (Lat.draw w) ?hop ?hdone
 case hdone=>
  intro a w1 hL hS hT
  have k4:a.tmps.getD 4 undef=.bool true:=hT 60 _ rfl _ rfl
  have he:=zam hS
  have hQ2:=hQ (a.tmps.getD 101 undef) (a.tmps.getD 102 undef) (a.tmps.getD 103 undef) (a.tmps.getD 104 undef) (a.tmps.getD 105 undef) (a.tmps.getD 106 undef) (a.tmps.getD 107 undef) (a.tmps.getD 108 undef) (a.tmps.getD 109 undef) (a.tmps.getD 110 undef) (a.tmps.getD 111 undef) (a.tmps.getD 112 undef) (a.tmps.getD 113 undef) (a.tmps.getD 114 undef) (a.tmps.getD 115 undef) (a.tmps.getD 116 undef) (a.tmps.getD 117 undef) (a.tmps.getD 118 undef) (a.tmps.getD 119 undef) (a.tmps.getD 120 undef) (a.tmps.getD 121 undef) (a.tmps.getD 122 undef) (a.tmps.getD 123 undef) (a.tmps.getD 124 undef) (a.tmps.getD 125 undef) (a.tmps.getD 126 undef) (a.tmps.getD 127 undef) (a.tmps.getD 128 undef) (a.tmps.getD 129 undef) (a.tmps.getD 130 undef) (a.tmps.getD 131 undef) (a.tmps.getD 132 undef) (a.tmps.getD 133 undef) (a.tmps.getD 134 undef) (a.tmps.getD 135 undef) (a.tmps.getD 136 undef) (a.tmps.getD 137 undef) (a.tmps.getD 138 undef) (a.tmps.getD 139 undef) (a.tmps.getD 140 undef) (a.tmps.getD 141 undef) (a.tmps.getD 142 undef) (a.tmps.getD 143 undef) (a.tmps.getD 144 undef) (a.tmps.getD 145 undef) (a.tmps.getD 146 undef) (a.tmps.getD 147 undef) (a.tmps.getD 148 undef) (a.tmps.getD 149 undef) (a.tmps.getD 150 undef) (a.tmps.getD 151 undef) (a.tmps.getD 152 undef) (a.tmps.getD 153 undef) (a.tmps.getD 154 undef) (a.tmps.getD 155 undef) (a.tmps.getD 156 undef) (a.tmps.getD 157 undef) (a.tmps.getD 158 undef) (a.tmps.getD 159 undef) (a.tmps.getD 160 undef) w1 hL
  rw [←k4] at hQ2
  rw [he]
  exact hQ2
 case hop=>
  intro i o hi
  have hlt:i<61:=(Array.getElem?_eq_some_iff.1 hi).1
  rcases (show i=0∨i=1∨i=2∨i=3∨i=4∨i=5∨i=6∨i=7∨i=8∨i=9∨i=10∨i=11∨i=12∨i=13∨i=14∨i=15∨i=16∨i=17∨i=18∨i=19∨i=20∨i=21∨i=22∨i=23∨i=24∨i=25∨i=26∨i=27∨i=28∨i=29∨i=30∨i=31∨i=32∨i=33∨i=34∨i=35∨i=36∨i=37∨i=38∨i=39∨i=40∨i=41∨i=42∨i=43∨i=44∨i=45∨i=46∨i=47∨i=48∨i=49∨i=50∨i=51∨i=52∨i=53∨i=54∨i=55∨i=56∨i=57∨i=58∨i=59∨i=60 by omega) with rfl|rfl|rfl|rfl|rfl|rfl|rfl|rfl|rfl|rfl|rfl|rfl|rfl|rfl|rfl|rfl|rfl|rfl|rfl|rfl|rfl|rfl|rfl|rfl|rfl|rfl|rfl|rfl|rfl|rfl|rfl|rfl|rfl|rfl|rfl|rfl|rfl|rfl|rfl|rfl|rfl|rfl|rfl|rfl|rfl|rfl|rfl|rfl|rfl|rfl|rfl|rfl|rfl|rfl|rfl|rfl|rfl|rfl|rfl|rfl|rfl
  all_goals obtain rfl:=Option.some.inj hi
  all_goals clear hi hlt
  all_goals intro a w1 hL hS hD
  · exact zy rfl (by simp [execOp,Act.eval,zs hS s10,go_sem])
  · exact zy rfl (by simp [execOp,Act.eval,zd hD 0 101,go_sem])
  · exact zyg (zg hD 1 102) rfl (by simp [execOp,Act.eval,zs hS s0,go_sem])
  · exact zyg (zg hD 1 102) rfl (by simp [execOp,Act.eval,zs hS s5,go_sem])
  · exact zyg (zg hD 1 102) rfl (by simp [execOp,Act.eval,zd hD 2 103,go_sem])
  · exact zyg (zg hD 1 102) rfl (by simp [execOp,Act.eval,zd hD 4 105,go_sem])
  · exact zyg (zg hD 1 102) rfl (by simp [execOp,Act.eval,zd hD 5 106,zd hD 3 104,hk3,hk0,go_sem])
  · exact zyg (zg hD 1 102) rfl (by simp [execOp,Act.eval,zd hD 6 107,cS w1 hL,go_sem])
  · exact zyg (zg hD 1 102) rfl (by simp [execOp,Act.eval,zs hS s3,go_sem])
  · exact zyg (zg hD 1 102) rfl (by simp [execOp,Act.eval,zd hD 8 109,o3 w1 hL,go_sem])
  · have d1:=zg hD 1 102
    have d7:=zd hD 7 108
    have d9:=zd hD 9 110
    refine zat (zas rfl rfl rfl d1) ?_
    refine zbb (f:=18) (args:=#[.pointer (some ⟨S,0,none⟩),.string o]) (by simp [execOp,resolve,Act.eval,d7,d9,go_sem]) ?_
    refine (h18 w1 hL).mono ?_
    rintro e w2 ⟨rfl,h2⟩
    exact ⟨_,rfl,h2,TV.mk rfl⟩
  · exact zyg (zg hD 1 102) rfl (by simp [execOp,Act.eval,zs hS s0,go_sem])
  · exact zyg (zg hD 1 102) rfl (by simp [execOp,Act.eval,zs hS s5,go_sem])
  · exact zyg (zg hD 1 102) rfl (by simp [execOp,Act.eval,zd hD 11 112,go_sem])
  · exact zyg (zg hD 1 102) rfl (by simp [execOp,Act.eval,zd hD 13 114,go_sem])
  · exact zyg (zg hD 1 102) rfl (by simp [execOp,Act.eval,zd hD 14 115,zd hD 12 113,hk3,hk0,go_sem])
  · exact zyg (zg hD 1 102) rfl (by simp [execOp,Act.eval,zd hD 15 116,cD w1 hL,go_sem])
  · exact zyg (zg hD 1 102) rfl (by simp [execOp,Act.eval,zs hS s3,go_sem])
  · exact zyg (zg hD 1 102) rfl (by simp [execOp,Act.eval,zd hD 17 118,o3 w1 hL,go_sem])
  · have d1:=zg hD 1 102
    have d16:=zd hD 16 117
    have d18:=zd hD 18 119
    refine zat (zas rfl rfl rfl d1) ?_
    refine zbb (f:=26) (args:=#[.pointer (some ⟨D,0,none⟩),.string o]) (by simp [execOp,resolve,Act.eval,d16,d18,go_sem]) ?_
    refine (h26 w1 hL).mono ?_
    rintro e w2 ⟨rfl,h2⟩
    exact ⟨_,rfl,h2,TV.mk rfl⟩
  · exact zyg (zg hD 1 102) rfl (by simp [execOp,Act.eval,zd hD 10 111,zd hD 19 120,go_sem])
  · exact zy rfl (by simp [execOp,Act.eval,zd hD 1 102,zd hD 20 121,go_sem])
  · exact zy rfl (by simp [execOp,Act.eval,zd hD 21 122,go_sem])
  · exact zyg (zg hD 22 123) rfl (by simp [execOp,Act.eval,zs hS s0,go_sem])
  · exact zyg (zg hD 22 123) rfl (by simp [execOp,Act.eval,zs hS s5,go_sem])
  · exact zyg (zg hD 22 123) rfl (by simp [execOp,Act.eval,zd hD 23 124,go_sem])
  · exact zyg (zg hD 22 123) rfl (by simp [execOp,Act.eval,zd hD 25 126,go_sem])
  · exact zyg (zg hD 22 123) rfl (by simp [execOp,Act.eval,zd hD 26 127,zd hD 24 125,hk3,hk0,go_sem])
  · exact zyg (zg hD 22 123) rfl (by simp [execOp,Act.eval,zd hD 27 128,cP w1 hL,go_sem])
  · have d22:=zg hD 22 123
    have d28:=zd hD 28 129
    refine zat (zas rfl rfl rfl d22) ?_
    refine zbb (f:=19) (args:=#[.pointer (some ⟨PP,0,none⟩)]) (by simp [execOp,resolve,Act.eval,d28,go_sem]) ?_
    refine (h19 w1 hL).mono ?_
    rintro e w2 ⟨rfl,h2⟩
    exact ⟨_,rfl,h2,TV.mk rfl⟩
  · exact zyg (zg hD 22 123) rfl (by simp [execOp,Act.eval,zs hS s0,go_sem])
  · exact zyg (zg hD 22 123) rfl (by simp [execOp,Act.eval,zs hS s5,go_sem])
  · exact zyg (zg hD 22 123) rfl (by simp [execOp,Act.eval,zd hD 30 131,go_sem])
  · exact zyg (zg hD 22 123) rfl (by simp [execOp,Act.eval,zd hD 32 133,go_sem])
  · exact zyg (zg hD 22 123) rfl (by simp [execOp,Act.eval,zd hD 33 134,zd hD 31 132,hk3,hk0,go_sem])
  · exact zyg (zg hD 22 123) rfl (by simp [execOp,Act.eval,zd hD 34 135,cR w1 hL,go_sem])
  · have d22:=zg hD 22 123
    have d35:=zd hD 35 136
    refine zat (zas rfl rfl rfl d22) ?_
    refine zbb (f:=27) (args:=#[.pointer (some ⟨R,0,none⟩)]) (by simp [execOp,resolve,Act.eval,d35,go_sem]) ?_
    refine (h27 w1 hL).mono ?_
    rintro e w2 ⟨rfl,h2⟩
    exact ⟨_,rfl,h2,TV.mk rfl⟩
  · exact zyg (zg hD 22 123) rfl (by simp [execOp,Act.eval,zd hD 29 130,zd hD 36 137,go_sem])
  · exact zy rfl (by simp [execOp,Act.eval,zd hD 22 123,zd hD 37 138,go_sem])
  · exact zy rfl (by simp [execOp,Act.eval,zd hD 38 139,go_sem])
  · exact zyg (zg hD 39 140) rfl (by simp [execOp,Act.eval,zs hS s0,go_sem])
  · exact zyg (zg hD 39 140) rfl (by simp [execOp,Act.eval,zs hS s5,go_sem])
  · exact zyg (zg hD 39 140) rfl (by simp [execOp,Act.eval,zd hD 40 141,go_sem])
  · exact zyg (zg hD 39 140) rfl (by simp [execOp,Act.eval,zd hD 42 143,go_sem])
  · exact zyg (zg hD 39 140) rfl (by simp [execOp,Act.eval,zd hD 43 144,zd hD 41 142,hk3,hk0,go_sem])
  · exact zyg (zg hD 39 140) rfl (by simp [execOp,Act.eval,zd hD 44 145,cP w1 hL,go_sem])
  · exact zyg (zg hD 39 140) rfl (by simp [execOp,Act.eval,zs hS s3,go_sem])
  · exact zyg (zg hD 39 140) rfl (by simp [execOp,Act.eval,zd hD 46 147,o3 w1 hL,go_sem])
  · have d39:=zg hD 39 140
    have d45:=zd hD 45 146
    have d47:=zd hD 47 148
    refine zat (zas rfl rfl rfl d39) ?_
    refine zbb (f:=28) (args:=#[.pointer (some ⟨PP,0,none⟩),.string o]) (by simp [execOp,resolve,Act.eval,d45,d47,go_sem]) ?_
    refine (h28 w1 hL).mono ?_
    rintro e w2 ⟨rfl,h2⟩
    exact ⟨_,rfl,h2,TV.mk rfl⟩
  · exact zyg (zg hD 39 140) rfl (by simp [execOp,Act.eval,zs hS s0,go_sem])
  · exact zyg (zg hD 39 140) rfl (by simp [execOp,Act.eval,zs hS s5,go_sem])
  · exact zyg (zg hD 39 140) rfl (by simp [execOp,Act.eval,zd hD 49 150,go_sem])
  · exact zyg (zg hD 39 140) rfl (by simp [execOp,Act.eval,zd hD 51 152,go_sem])
  · exact zyg (zg hD 39 140) rfl (by simp [execOp,Act.eval,zd hD 52 153,zd hD 50 151,hk3,hk0,go_sem])
  · exact zyg (zg hD 39 140) rfl (by simp [execOp,Act.eval,zd hD 53 154,cR w1 hL,go_sem])
  · exact zyg (zg hD 39 140) rfl (by simp [execOp,Act.eval,zs hS s3,go_sem])
  · exact zyg (zg hD 39 140) rfl (by simp [execOp,Act.eval,zd hD 55 156,o3 w1 hL,go_sem])
  · have d39:=zg hD 39 140
    have d54:=zd hD 54 155
    have d56:=zd hD 56 157
    refine zat (zas rfl rfl rfl d39) ?_
    refine zbb (f:=29) (args:=#[.pointer (some ⟨R,0,none⟩),.string o]) (by simp [execOp,resolve,Act.eval,d54,d56,go_sem]) ?_
    refine (h29 w1 hL).mono ?_
    rintro e w2 ⟨rfl,h2⟩
    exact ⟨_,rfl,h2,TV.mk rfl⟩
  · exact zyg (zg hD 39 140) rfl (by simp [execOp,Act.eval,zd hD 48 149,zd hD 57 158,go_sem])
  · exact zy rfl (by simp [execOp,Act.eval,zd hD 39 140,zd hD 58 159,go_sem])
  exact zy rfl (by simp [execOp,Act.eval,zd hD 59 160,go_sem])
end Go.Proofs.YtlppibigceeimaaGreatDoor
