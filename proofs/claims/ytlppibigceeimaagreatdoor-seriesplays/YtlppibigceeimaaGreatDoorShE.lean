import Derived.Test.YtlppibigceeimaaGreatDoorSgX
import Derived.Test.YtlppibigceeimaaGreatDoorShH
set_option linter.unusedSimpArgs false
set_option linter.unusedVariables false
set_option maxHeartbeats 40000000
set_option maxRecDepth 100000
namespace Go.Proofs.YtlppibigceeimaaGreatDoor
open Go.RowKit
theorem zfz (l:List Int) (k:Nat) (x:Int):zae (l.set k x)=(zae l).set k (.int .u8 x):=by simp [zae,List.map_set]
structure HR (w0 w:World) (base N:Nat) (a:Option Addr) (c:Nat) (L:List (List Int)) (us:List Value) (H:Nat→Nat→Prop) (vc:Value) (Lc:List Value) (i:Nat):Prop where
 row:w.ownsRow base 84 1 (.slice a N c) N us
 each:∀(j:Nat) (b:List Int),i≤j→L[j]?=some b→∃g cc,us[j]?=some (.slice (some ⟨g,0,none⟩) b.length cc)∧K.Rw w 5 (.slice (some ⟨g,0,none⟩) b.length cc) (zae b)∧w0.heap.size≤g∧¬OB Lc g∧∀k,k<2→¬H k g
 apt:∀(i j:Nat) (u u':Value),i≠j→us[i]?=some u→us[j]?=some u'→∀g,u.ownBlock=some g→¬u'.ownBlock=some g
 va:∀g,(Value.slice a N c).ownBlock=some g→¬vc.ownBlock=some g
section
variable {w0:World} {v:Nat} {P S R D n:Nat→Nat} {st su:Nat→K.Sx} {Z:Nat→ByteArray→List En} {E:Nat→List De} {F H:Nat→Nat→Prop} {vl vc:Value} {Ll Lc:List Value}
theorem HR.next {w wy w6:World} {base N c i g cc M g6 c6:Nat} {a:Option Addr} {L:List (List Int)} {us:List Value} {b:List Int} {ob:Obj}
 (hW:WK w0 w v P S R D n st su Z E F H vl vc Ll Lc) (h:HR w0 w base N a c L us H vc Lc i) (hM:Lc.length=M) (hM2:M<120) (hb:L[i]?=some b) (hb9:b.length≤1000) (hu:us[i]?=some (.slice (some ⟨g,0,none⟩) b.length cc))
 (hc:Chg (fun x=>x=g) w wy) (hr:K.Rw wy 5 (.slice (some ⟨g,0,none⟩) b.length cc) (zae (List.replicate b.length (mkB M))))
 (ho:w6.ownsRow w0.heap.size 84 1 (.slice (some ⟨g6,0,none⟩) (M+1) c6) (M+1) (Lc++[.slice (some ⟨g,0,none⟩) b.length cc])) (hp:Pushed (wy.drew.alloc ob) w6 vc g6):
 WK w0 (w6.setCell ⟨v,9,none⟩ (.slice (some ⟨g6,0,none⟩) (M+1) c6)) v P S R D n st su Z E F H vl (.slice (some ⟨g6,0,none⟩) (M+1) c6) Ll (Lc++[.slice (some ⟨g,0,none⟩) b.length cc])∧HR w0 (w6.setCell ⟨v,9,none⟩ (.slice (some ⟨g6,0,none⟩) (M+1) c6)) base N a c L us H (.slice (some ⟨g6,0,none⟩) (M+1) c6) (Lc++[.slice (some ⟨g,0,none⟩) b.length cc]) (i+1)∧S53 w (w6.setCell ⟨v,9,none⟩ (.slice (some ⟨g6,0,none⟩) (M+1) c6)):=by
 obtain ⟨g',cc',e1,e2,e3,e4,e5⟩:=h.each i b (Nat.le_refl _) hb
 rw [hu] at e1
 injection e1 with e1
 simp only [Value.slice.injEq,Option.some.injEq,Addr.mk.injEq] at e1
 obtain ⟨⟨rfl,-⟩,-,rfl⟩:=e1
 have ht:=zf3 e2 (g:=g) rfl
 have hWy:=hW.chg hc (fun x e=>by rw [show x=g from e];exact e3) (fun x e hlt=>by
  rw [show x=g from e]
  exact ⟨.inr ht,e5,(fun e2=>by have:=(hW.tl.tg rkS e2).one ht;cases this),e4⟩)
 have hWd:=hWy.later (Below.refl _ _).drew
 subst hM
 have hA:=WK.addC (u:=.slice (some ⟨g,0,none⟩) b.length cc) (m:=b.length) (g6:=g6) (c6:=c6) hWd hM2 ho hp hr (by omega) (fun x hx=>by cases hx;exact ⟨e3,e4,e5⟩)
 obtain ⟨k1,k2⟩:=hp.chg
 have hs:(wy.drew).heap.size=wy.heap.size:=rfl
 have s1:=hc.size
 have ct:Chg (fun x=>x=g∨vc.ownBlock=some x∨x=v) w (w6.setCell ⟨v,9,none⟩ (.slice (some ⟨g6,0,none⟩) (Lc.length+1) c6)):=(((hc.mono (fun _ _ e=>.inl e)).trans (Chg.drew (fun x=>x=g∨vc.ownBlock=some x∨x=v) wy) (fun _ _ e=>e)).trans k1 (fun _ _ e=>.inr (.inl e))).trans (Chg.set ⟨v,9,none⟩ _ w6) (fun _ _ e=>.inr (.inr e))
 have hvt:=hW.blk.tg
 have hct:∀x,vc.ownBlock=some x→Tg w x 84:=fun x hx=>zab hW.oc x hx
 refine ⟨hA,⟨ct.owns h.row (fun x hx e=>?_),fun j b2 hij hb2=>?_,h.apt,fun x hx e=>?_⟩,S53.of ct (fun x e h53=>?_)⟩
 rotate_right
 · rcases e with e|e|e
   · rw [show x=g from e] at h53;have:=h53.one ht;cases this
   · have:=h53.one (hct x e);cases this
   rw [show x=v from e] at h53;have:=h53.one hvt;cases this
 · have h84:=zab h.row x hx
   rcases e with e|e|e
   · rw [e] at h84;have:=h84.one ht;cases this
   · exact h.va x hx e
   rw [e] at h84;have:=h84.one hvt;cases this
 · obtain ⟨g2,cc2,q1,q2,q3,q4,q5⟩:=h.each j b2 (by omega) hb2
   have hne:¬g2=g:=fun e=>h.apt j i _ _ (by omega) q1 hu g2 rfl (by rw [e];rfl)
   have ht2:=zf3 q2 (g:=g2) rfl
   refine ⟨g2,cc2,q1,zfr q2 ct (fun x hx e=>?_),q3,?_,q5⟩
   · cases hx
     rcases e with e|e|e
     · exact hne e
     · have:=(hct g2 e).one ht2;cases this
     have e':g2=v:=e
     rw [e'] at ht2;have:=ht2.one hvt;cases this
   rintro ⟨u,hu2,e⟩
   rcases List.mem_append.1 hu2 with hu2|hu2
   · exact q4 ⟨u,hu2,e⟩
   rw [List.mem_singleton.1 hu2] at e
   cases e
   exact hne rfl
 have hlt:=za0 h.row x hx
 have e':g6=x:=by simpa [Value.ownBlock] using e
 rcases k2 with e2|⟨g2,e2,hg2⟩
 · exact h.va x hx (by rw [←e'];exact e2.symm)
 have e3':g6=g2:=by simpa using e2
 rw [hs] at hg2
 omega
theorem holdsP (w:World) (h:WK w0 w v P S R D n st su Z E F H vl vc Ll Lc) (base N c:Nat) (a:Option Addr) (L:List (List Int)) (us:List Value) (hN:L.length=N) (hN9:N≤1000000) (hl:∀b∈L,b.length≤1000) (hR:HR w0 w base N a c L us H vc Lc 0):
 Calls Tryz.prog 54 #[pV v,.slice a N c] w fun e w'=>e=.returned (.tuple #[])∧(∃vc' Lc',WK w0 w' v P S R D n st su Z E F H vl vc' Ll Lc')∧S53 w w':=by
 have HI0:=zaa (show (∃vc' Lc',WK w0 w v P S R D n st su Z E F H vl vc' Ll Lc'∧HR w0 w base N a c L us H vc' Lc' 0)∧S53 w w from ⟨⟨_,_,h,hR⟩,fun _ _=>rfl⟩)
 have HN:=zaa hN
 have HL:=zaa hl
 obtain ⟨i7,hi7,hz7,hs7,hb7⟩:=zcw
 clear h hR hN hl
 unfold pV
 go_enter Tryz.func54,Tryz.ntmps54
 go_wp2_with fail
 go_loopw [4] (fun s4 wx=>∃i:Nat,s4=.int .i64 (i:Int)∧i≤N∧Hid ((∃vc' Lc',WK w0 wx v P S R D n st su Z E F H vl vc' Ll Lc'∧HR w0 wx base N a c L us H vc' Lc' i)∧S53 w wx)) (fun s4 _=>N - nOf s4)
 case atStart=>exact ⟨0,rfl,by omega,HI0⟩
 case round=>
  rename World=>wr
  obtain ⟨i,rfl,hi,hI⟩:=hrel
  obtain ⟨⟨vc1,Lc1,hW,hR⟩,h53⟩:=hI.out
  obtain ⟨ac,cc1,hvc⟩:=zal hW.oc
  have c9:=hW.c8.2
  have f9:=hW.blk.frozen 9
  rw [hvc] at c9
  obtain ⟨M,hM⟩:∃M,Lc1.length=M:=⟨_,rfl⟩
  rw [hM] at c9 hvc
  have hM120:=hW.len.2
  rw [hM] at hM120
  have H53:=zaa h53
  have HW:=zaa hW
  have HRR:=zaa hR
  have HM:=zaa hM
  have HVC:=zaa hvc
  clear hI hW hR hM hvc HI0 h53
  by_cases hlt:i<N
  · have hltz:(i:Int)<(N:Int):=by omega
    by_cases h120:M<120
    · have h120z:(M:Int)<120:=by omega
      obtain ⟨b,hb⟩:∃b,L[i]?=some b:=⟨L[i]'(by rw [HN.out];exact hlt),by simp⟩
      obtain ⟨g,cc,hu,hrw,_⟩:=HRR.out.each i b (Nat.le_refl _) hb
      have hrow:=HRR.out.row
      obtain ⟨ga,rfl,_⟩:=zbc hrow (by omega)
      have hcell:=zai hrow i _ hu
      have hb9:=HL.out b (List.mem_of_getElem? hb)
      obtain ⟨bl,hbl⟩:∃bl,b.length=bl:=⟨_,rfl⟩
      have HRW:=zaa hrw
      rw [hbl] at hcell hb9
      have HBL:=zaa hbl
      have HB:=zaa hb
      have HU:=zaa hu
      have hgat:¬ga=g:=fun e=>by
       have h1:=zab hrow ga rfl
       rw [e] at h1
       have:=h1.one (zf3 hrw rfl)
       cases this
      have hgv:¬v=g:=fun e=>by
       have h1:=HW.out.blk.tg
       rw [e] at h1
       have:=h1.one (zf3 hrw rfl)
       cases this
      have hwrap:IntKind.u8.wrap (M:Int)=(M:Int):=by
       unfold IntKind.wrap
       simp [IntKind.signed,IntKind.bits]
       omega
      clear hb hrow hrw hbl hu
      go_wp2_with fail
      go_loopw [6] (fun s6 wx=>∃k:Nat,s6=.int .i64 (k:Int)∧k≤bl∧Hid (Chg (fun x=>x=g) wr wx)∧Hid (K.Rw wx 5 (.slice (some ⟨g,0,none⟩) bl cc) (zae (List.replicate k (M:Int)++b.drop k)))) (fun s6 _=>bl - nOf s6)
      case atStart=>exact ⟨0,rfl,by omega,zaa (Chg.refl _ _),zaa (by rw [←HBL.out];simpa using HRW.out)⟩
      case round=>
       rename World=>wy
       obtain ⟨k,rfl,hk,hC,hRk⟩:=hrel
       have hcy:wy.cell? ⟨ga,i,none⟩=some (.slice (some ⟨g,0,none⟩) bl cc):=by
        rw [World.cell?_of_block (w:=wr) (a:=⟨ga,i,none⟩) (hC.out.block ga (by have:=World.block_lt_of_cell? wr _ hcell;simpa using this) (fun e=>hgat e))]
        exact hcell
       by_cases hkl:k<bl
       · have hklz:(k:Int)<(bl:Int):=by omega
         have hbl9:=HBL.out
         obtain ⟨y,hy⟩:∃y,(zae (List.replicate k (M:Int)++b.drop k))[k]?=some y:=⟨(zae (List.replicate k (M:Int)++b.drop k))[k]'(by rw [zaf];simp;omega),List.getElem?_eq_getElem _⟩
         have ky:=hRk.out.cell hy
         have fy:wy.frozen? ⟨g,k,none⟩=false:=hRk.out.frozen (by have:=hRk.out.lens;rw [zaf] at this;simp at this;omega)
         have HNX:Hid (K.Rw (wy.setCell ⟨g,k,none⟩ (.int .u8 (M:Int))) 5 (.slice (some ⟨g,0,none⟩) bl cc) (zae (List.replicate (k+1) (M:Int)++b.drop (k+1)))):=zaa (by
          rw [←zdq (by omega),zfz]
          exact hRk.out.set k _)
         clear hy
         go_wp2_with fail
         refine ⟨⟨k+1,by first|rfl|simp,by omega,zaa (hC.out.trans (Chg.set ⟨g,k,none⟩ _ wy) (fun _ _ e=>e)),HNX⟩,?_⟩
         simp [nOf]
         omega
       have hklz:¬(k:Int)<(bl:Int):=by omega
       have hRe:=hRk.out
       rw [show k=bl by omega,List.drop_of_length_le (by rw [HBL.out];omega),List.append_nil] at hRe
       have hmk:mkB M=(M:Int):=by unfold mkB;omega
       rw [←hmk] at hRe
       have HRE:=zaa hRe
       have Bv:=hC.out.blk HW.out.blk hgv
       have d9:wy.cell? ⟨v,9,none⟩=some (.slice ac M cc1):=by rw [Bv.cell 9,←HVC.out];rfl
       have hvl:v<wy.heap.size:=Bv.lt
       have hgal:ga<wy.heap.size:=by have:=World.block_lt_of_cell? wy _ hcy;simpa using this
       have HOC:Hid (wy.ownsRow w0.heap.size 84 1 (.slice ac M cc1) M Lc1):=zaa (by
        have h9:=hC.out.owns HW.out.oc (fun x hx e=>by
         have h1:=zab HW.out.oc x hx
         rw [show x=g from e] at h1
         have:=h1.one (zf3 HRW.out rfl)
         cases this)
        rw [HM.out,HVC.out] at h9
        exact h9)
       have hsz:w0.heap.size≤wy.heap.size:=Nat.le_trans HW.out.bel.size hC.out.size
       have HNX:=zaa (fun (g6 c6:Nat) (w6:World) (ob:Obj) ho hp=>HR.next (wy:=wy) (w6:=w6) (g6:=g6) (c6:=c6) (ob:=ob) HW.out HRR.out HM.out h120 HB.out (by rw [HBL.out];exact hb9) (by exact HU.out) hC.out (by rw [HBL.out];exact HRE.out) ho hp)
       have HP9:Hid (∀(g6:Nat) (w6:World) (ob:Obj),Pushed (wy.drew.alloc ob) w6 (.slice ac M cc1) g6→w6.cell? ⟨v,9,none⟩=some (.slice ac M cc1)∧w6.frozen? ⟨v,9,none⟩=false∧w6.cell? ⟨ga,i,none⟩=some (.slice (some ⟨g,0,none⟩) bl cc)):=zaa (fun g6 w6 ob hp=>by
        have hq:=hp.chg.1
        have h9:Blk w6 v 36 _:=hq.blk (Bv.drew) (fun e=>by rw [←HVC.out] at e;have:=(zab HW.out.oc v e).one HW.out.blk.tg;cases this)
        refine ⟨by rw [h9.cell 9,←HVC.out];rfl,h9.frozen 9,?_⟩
        rw [World.cell?_of_block (w:=wy) (a:=⟨ga,i,none⟩) (hq.block ga hgal (fun e=>by rw [←HVC.out] at e;exact HRR.out.va ga rfl e))]
        exact hcy)
       clear hRe Bv
       go_wp2_with fail
       go_region_law (first
        |(refine zdl _ (by rfl) (.tmp 47) (.tmp 52) 34 (by rfl) 84 i7 (.slice none 0 0) 24 Tryz.underlying34 hi7 hz7 hs7 hb7 rfl w0.heap.size (.slice ac M cc1) M Lc1 (by rfl) (World.ownsRow.alloc (w:=wy.drew) HOC.out _) ⟨wy.heap.size,0,none⟩ (.slice (some ⟨g,0,none⟩) bl cc) (by rfl) ((Blk.new wy.drew 84 [.slice (some ⟨g,0,none⟩) bl cc]).cell 0) rfl (by unfold maxLen;omega) (by omega) (by show w0.heap.size≤(wy.drew.alloc _).heap.size;simp;omega) ?_
          intro g6 c6 w6 o6 p6
          have P6:=zaa (And.intro o6 p6)
          obtain ⟨x1,x2,x3⟩:=HP9.out _ _ _ p6
          clear o6 p6))
       all_goals
        go_wp2_with fail
        refine ⟨⟨i+1,by first|rfl|simp,by omega,zaa ?_⟩,?_⟩
        · have hh:=HNX.out g6 c6 w6 _ (by rw [HBL.out];exact P6.out.1) (by rw [HVC.out];exact P6.out.2)
          exact ⟨⟨_,_,hh.1,hh.2.1⟩,H53.out.trans hh.2.2⟩
        simp [nOf]
        omega
    have h120z:¬(M:Int)<120:=by omega
    go_wp2_with fail
    refine bodyPost_end (results_none rfl _ _ _) rfl ?_
    exact ⟨rfl,⟨_,_,HW.out⟩,H53.out⟩
  have hltz:¬(i:Int)<(N:Int):=by omega
  go_wp2_with fail
  refine bodyPost_end (results_none rfl _ _ _) rfl ?_
  exact ⟨rfl,⟨_,_,HW.out⟩,H53.out⟩
end
theorem SZ.smps {n:Nat} {st:K.Sx} {Z:ByteArray→List En} (h:SZ n st Z) (o:ByteArray) (k:Int):(enL (Z o) k).2.length≤1000*n:=by
 have hen:=h.en o k
 have hf:=h.few o k
 have h1:=zbd (enL (Z o) k).2
 have h2:∀G:List (List Sm),(∀g∈G,g.length≤1000)→G.flatten.length≤1000*G.length:=by
  intro G
  induction G with
  |nil=>intro _;simp
  |cons g G ih=>
   intro hh
   have:=ih (fun x hx=>hh x (by simp [hx]))
   have:=hh g (by simp)
   simp only [List.length_cons,List.flatten_cons,List.length_append]
   omega
 have h3:=h2 (gO (gF (enL (Z o) k).2)) (fun g hg=>za8 (zcs (okG hen.2.2.1) g hg).2.1)
 rw [h1,←hen.1.1] at h3
 have:1000*(enL (Z o) k).1.length≤1000*n:=Nat.mul_le_mul_left _ hf
 omega
theorem CkW.low {w:World} {base b2:Nat} {v:Value} {L:List (List Int)} {us:List Value} (h:CkW w base v L us) (hb:b2≤base):CkW w b2 v L us:=
 ⟨zbq h.row (fun g hg=>Nat.le_trans hb (h.row.lt g hg).1),fun i b hi=>by
  obtain ⟨g,c,e1,e2,e3,e4⟩:=h.each i b hi
  exact ⟨g,c,e1,e2,Nat.le_trans hb e3,e4⟩,h.apt⟩
def SamX (l:List Sm) (base:Nat) (x:Value) (w:World):Prop:=∃ad c,x=.slice ad l.length c∧w.ownsRow base 53 2 (.slice ad l.length c) l.length (cS l)
structure Stq where
 kd:Int
 on:Int
 id:Int
 o:ByteArray
 la:Option Addr
 ln:Nat
 lc:Nat
 f:Int
 t:Int
 ca:Option Addr
 cn:Nat
 cc:Nat
def Stq.cells (s:Stq):List Value:=[.int .i64 s.kd,.int .i64 s.on,.int .i64 s.id,.string s.o,.slice s.la s.ln s.lc,.int .i64 s.f,.int .i64 s.t,.slice s.ca s.cn s.cc]
section
variable {w0:World} {v:Nat} {P S R D n:Nat→Nat} {T:Nat}
theorem tellsP (w:World) (h:WX w0 v P S R D n T w) (hT:T≤1000) (k:Nat) (hk:k<2) (s:Stq):
 Calls Tryz.prog 24 #[pV v,.int .i64 (k:Int),.agg s.cells.toArray] w fun e w'=>e=.returned (.bool true)∧WX w0 v P S R D n T w':=by
 obtain ⟨st,su,Z,E,F,H,vl,vc,Ll,Lc,hW,hE,hTT⟩:=h
 have hz:=(hW.sq k hk).sz
 have hy:=(hW.dq k hk).sz
 have heq:=(hE k hk).eqv.smp (hz.key s.o) (hy.key s.o) s.id
 have hsm:=hz.smps s.o s.id
 have hnn:=hW.nn k hk
 have hok:=(hz.en s.o s.id).2.2.1
 have HW:=zaa hW
 have HE:=zaa hE
 have HTT:=zaa hTT
 have hlo:=hW.lo2
 have hbl:=hW.bel.size
 have hEk:=hTT k hk
 have HRa:=zaa (fun (wx:World) (hb:Below w.heap.size w wx)=>rangeP s.o s.id s.f s.t (F k) (S k) (P k) (n k) (st k) (Z k) wx ((hW.later hb).sq k hk) (hW.later hb).gv (by have:=hb.size;omega))
 have HRb:=zaa (fun (wx:World) (hb:Below w.heap.size w wx)=>rangeQ s.o s.id s.f s.t (H k) (D k) (n k) (su k) (E k) wx ((hW.later hb).dq k hk).dq (by omega) (by rw [←heq];omega))
 have HLa:=zaa (fun (wx:World) (hb:Below w.heap.size w wx)=>lastP s.o s.id (F k) (S k) (P k) (n k) (st k) (Z k) wx ((hW.later hb).sq k hk) (hW.later hb).gv (by have:=hb.size;omega))
 have HLb:=zaa (fun (wx:World) (hb:Below w.heap.size w wx)=>lastQ s.o s.id (H k) (D k) (n k) (su k) (E k) wx ((hW.later hb).dq k hk).dq (by omega) (by rw [←heq];omega))
 have HCa:=zaa (fun (wx:World) (hb:Below w.heap.size w wx)=>schunksW s.o s.id (F k) (S k) (P k) (n k) (st k) (Z k) wx ((hW.later hb).sq k hk))
 have HCb:=zaa (fun (wx:World) (hb:Below w.heap.size w wx)=>chunksQ s.o s.id (H k) (D k) (n k) (su k) (E k) wx ((hW.later hb).dq k hk).dq (by omega) (by rw [←heq];omega))
 rw [←heq] at HRb HLb HCb
 have hcp:=zaa (fun (wx:World) (hb:Below w.heap.size w wx)=>(hW.later hb).cp hk)
 have hpos:∀b∈(gO (gF (enL (Z k s.o) s.id).2)).map encC,0<b.length∧b.length≤128:=fun b hb=>by
  obtain ⟨g,hg,rfl⟩:=List.mem_map.1 hb
  have h9:=zcs (okG hok) g hg
  rw [zbl h9.1]
  have:=h9.2.1
  rw [zbl h9.1] at this
  omega
 have hCl:((gO (gF (enL (Z k s.o) s.id).2)).map encC).length≤100:=by
  rw [List.length_map,←(hz.en s.o s.id).1.1]
  have:=hz.few s.o s.id
  omega
 have HOK:=zaa hok
 obtain ⟨A,hA⟩:∃A,(enL (Z k s.o) s.id).2=A:=⟨_,rfl⟩
 rw [hA] at HRa HRb HLa HLb HCa HCb hpos hCl hsm HOK
 have hrl:(rng s.f s.t A).length≤1000000:=by
  have:(rng s.f s.t A).length≤A.length:=List.length_filter_le _ _
  omega
 have HPOS:=zaa hpos
 obtain ⟨C,hC⟩:∃C,(gO (gF A)).map encC=C:=⟨_,rfl⟩
 rw [hC] at HCa HCb HPOS hCl
 have HCL:=zaa hCl
 have hk3:(k:Int)<2:=by omega
 have hk0:¬(k:Int)<0:=by omega
 obtain ⟨kd,on,id,o,la,ln,lc,f,t,ca,cn,cc⟩:=s
 dsimp only at*
 have hrok:Hid (∀x∈rng f t A,OkS x):=zaa (fun x hx=>HOK.out x (List.mem_filter.1 hx).1)
 obtain ⟨rl,hrle⟩:∃rl,rng f t A=rl:=⟨_,rfl⟩
 rw [hrle] at HRa HRb hrl hrok
 obtain ⟨la',hla'⟩:∃x:Sm,A.getLast?.getD z0=x:=⟨_,rfl⟩
 obtain ⟨bb,hbb⟩:∃x:Bool,(!A.isEmpty)=x:=⟨_,rfl⟩
 rw [hla',hbb] at HLa HLb
 clear hW hE hTT hz hy heq hsm hok hpos hC hA hla' hbb hrle hCl hEk
 unfold pV
 go_enter Tryz.func24,Tryz.ntmps24
 go_wp2_with (first
  |(refine zac rfl 48 (.tmp 2) rfl [.int .i64 kd,.int .i64 on,.int .i64 id,.string o,.slice la ln lc,.int .i64 f,.int .i64 t,.slice ca cn cc] rfl ?_
    intro w1 B1 bl1 hz1
    have HB1:=zaa B1
    have BL1:=zaa bl1
    clear B1 bl1))
 obtain ⟨ob,hob⟩:∃ob,w.heap.size=ob:=⟨_,rfl⟩
 rw [hob] at HB1
 have O:Hid (∀wx,Below w1.heap.size w1 wx→wx.cell? ⟨ob,2,none⟩=some (.int .i64 id)∧wx.cell? ⟨ob,3,none⟩=some (.string o)∧wx.cell? ⟨ob,5,none⟩=some (.int .i64 f)∧wx.cell? ⟨ob,6,none⟩=some (.int .i64 t)):=zaa (fun wx hb=>by
  have h9:=HB1.out.later hb
  exact ⟨h9.cell 2,h9.cell 3,h9.cell 5,h9.cell 6⟩)
 rw [hob]
 have B1w:=BL1
 have OBB1w:=zaa (Below.refl w1.heap.size w1)
 go_upto_region 1 with fail
 refine tl_r1 v ob k (S k) o id f t (fun x wx=>SamX rl w1.heap.size x wx∧Below w1.heap.size w1 wx) w1 _ _ (by rfl) (by rfl) (by rfl) (by rfl) hk3 (by omega) (fun wx hL=>(hcp.out wx (B1w.out.trans (hL.mono B1w.out.size))).2.1) (fun wx hL=>(O.out wx (OBB1w.out.trans (hL.mono OBB1w.out.size))).1) (fun wx hL=>(O.out wx (OBB1w.out.trans (hL.mono OBB1w.out.size))).2.1) (fun wx hL=>(O.out wx (OBB1w.out.trans (hL.mono OBB1w.out.size))).2.2.1) (fun wx hL=>(O.out wx (OBB1w.out.trans (hL.mono OBB1w.out.size))).2.2.2) (fun wx hL=>?_) ?_
 · refine (HRa.out wx (B1w.out.trans (hL.mono B1w.out.size))).mono ?_
   rintro e w9 ⟨ad,c,rfl,o2,o3,o4⟩
   exact ⟨_,rfl,⟨ad,c,rfl,zbq o2 (fun g hg=>Nat.le_trans hL.size (o2.lt g hg).1)⟩,Below.trans hL (o4.mono hL.size)⟩
 intro v17 v18 v19 v20 v21 v22 v23 v24 v25 v26 v27 v28 v29 v30 v31 v7 x w2 hR
 obtain ⟨⟨a7,c7,rfl,o7⟩,b2⟩:=hR
 have O7:=zaa o7
 have A7:=zaa (fun (g:Nat) (hg:(Value.slice a7 rl.length c7).ownBlock=some g)=>And.intro (o7.lt g hg).1 (za0 o7 g hg))
 have B2w:Hid (Below w.heap.size w w2):=zaa (B1w.out.trans (b2.mono B1w.out.size))
 have OBB2w:=zaa b2
 clear o7 b2 HRa
 simp only [Act.put,List.setIfInBounds_toArray,List.set_cons_succ,List.set_cons_zero]
 go_upto_region 2 with fail
 refine tl_r2 v ob k (D k) o id f t (fun x wx=>SamX rl w2.heap.size x wx∧Below w2.heap.size w2 wx) w2 _ _ (by rfl) (by rfl) (by rfl) (by rfl) hk3 (by omega) (fun wx hL=>(hcp.out wx (B2w.out.trans (hL.mono B2w.out.size))).2.2.2) (fun wx hL=>(O.out wx (OBB2w.out.trans (hL.mono OBB2w.out.size))).1) (fun wx hL=>(O.out wx (OBB2w.out.trans (hL.mono OBB2w.out.size))).2.1) (fun wx hL=>(O.out wx (OBB2w.out.trans (hL.mono OBB2w.out.size))).2.2.1) (fun wx hL=>(O.out wx (OBB2w.out.trans (hL.mono OBB2w.out.size))).2.2.2) (fun wx hL=>?_) ?_
 · refine (HRb.out wx (B2w.out.trans (hL.mono B2w.out.size))).mono ?_
   rintro e w9 ⟨ad,c,rfl,o2,o3,o4⟩
   exact ⟨_,rfl,⟨ad,c,rfl,zbq o2 (fun g hg=>Nat.le_trans hL.size (o2.lt g hg).1)⟩,Below.trans hL (o4.mono hL.size)⟩
 intro v32 v33 v34 v35 v36 v37 v38 v39 v40 v41 v42 v43 v44 v45 v46 v8 x w3 hR
 obtain ⟨⟨a8,c8,rfl,o8⟩,b3⟩:=hR
 have O7:=zaa (owl O7.out b3)
 have O8:=zaa o8
 have S23:=zaa b3.size
 have B3w:Hid (Below w.heap.size w w3):=zaa (B2w.out.trans (b3.mono B2w.out.size))
 have OBB3w:Hid (Below w1.heap.size w1 w3):=zaa (OBB2w.out.trans (b3.mono OBB2w.out.size))
 clear o8 b3 HRb
 simp only [Act.put,List.setIfInBounds_toArray,List.set_cons_succ,List.set_cons_zero]
 go_upto_region 3 with fail
 refine tl_r3 v ob k (S k) w3.heap.size o id la'.t (la'.v:Int) bb w3 _ _ rfl (by rfl) (by rfl) (by rfl) (by rfl) hk3 (by omega) (fun wx hL=>(hcp.out wx (B3w.out.trans (hL.mono B3w.out.size))).2.1) (fun wx hL=>(O.out wx (OBB3w.out.trans (hL.mono OBB3w.out.size))).1) (fun wx hL=>(O.out wx (OBB3w.out.trans (hL.mono OBB3w.out.size))).2.1) (fun wx hL=>?_) ?_
 · refine (HLa.out wx (B3w.out.trans (hL.mono B3w.out.size))).mono ?_
   rintro e w9 ⟨rfl,b9⟩
   exact ⟨rfl,b9⟩
 intro v48 v49 v50 v51 v52 v53 v54 v55 v56 v57 v58 v47 v59 v60 g9 w4 b4 n9 hg9
 have O7:=zaa (owl O7.out b4)
 have O8:=zaa (owl O8.out b4)
 have N9:=zaa n9
 have S34:=zaa b4.size
 have B4w:Hid (Below w.heap.size w w4):=zaa (B3w.out.trans (b4.mono B3w.out.size))
 have OBB4w:Hid (Below w1.heap.size w1 w4):=zaa (OBB3w.out.trans (b4.mono OBB3w.out.size))
 clear b4 n9 HLa
 simp only [Act.put,List.setIfInBounds_toArray,List.set_cons_succ,List.set_cons_zero]
 go_upto_region 4 with fail
 refine tl_r4 v ob k (D k) w4.heap.size o id la'.t (la'.v:Int) bb w4 _ _ rfl (by rfl) (by rfl) (by rfl) (by rfl) hk3 (by omega) (fun wx hL=>(hcp.out wx (B4w.out.trans (hL.mono B4w.out.size))).2.2.2) (fun wx hL=>(O.out wx (OBB4w.out.trans (hL.mono OBB4w.out.size))).1) (fun wx hL=>(O.out wx (OBB4w.out.trans (hL.mono OBB4w.out.size))).2.1) (fun wx hL=>?_) ?_
 · refine (HLb.out wx (B4w.out.trans (hL.mono B4w.out.size))).mono ?_
   rintro e w9 ⟨rfl,b9⟩
   exact ⟨rfl,b9⟩
 intro v62 v63 v64 v65 v66 v67 v68 v69 v70 v71 v72 v61 v73 v74 g11 w5 b5 n11 hg11
 have O7:=zaa (owl O7.out b5)
 have O8:=zaa (owl O8.out b5)
 have N9:=zaa (N9.out.later b5)
 have N11:=zaa n11
 have B5w:Hid (Below w.heap.size w w5):=zaa (B4w.out.trans (b5.mono B4w.out.size))
 have OBB5w:Hid (Below w1.heap.size w1 w5):=zaa (OBB4w.out.trans (b5.mono OBB4w.out.size))
 clear b5 n11 HLb
 simp only [Act.put,List.setIfInBounds_toArray,List.set_cons_succ,List.set_cons_zero]
 go_upto_region 5 with fail
 refine tl_r5 v ob k (S k) o id f t (fun x wx=>∃ad cc us,x=.slice ad C.length cc∧CkW wx w5.heap.size (.slice ad C.length cc) C us∧Below w5.heap.size w5 wx) w5 _ _ (by rfl) (by rfl) (by rfl) (by rfl) hk3 (by omega) (fun wx hL=>(hcp.out wx (B5w.out.trans (hL.mono B5w.out.size))).2.1) (fun wx hL=>(O.out wx (OBB5w.out.trans (hL.mono OBB5w.out.size))).1) (fun wx hL=>(O.out wx (OBB5w.out.trans (hL.mono OBB5w.out.size))).2.1) (fun wx hL=>?_) ?_
 · refine (HCa.out wx (B5w.out.trans (hL.mono B5w.out.size))).mono ?_
   rintro e w9 ⟨ad,cc,us,rfl,q1,q2⟩
   exact ⟨_,rfl,ad,cc,us,rfl,q1.low hL.size,Below.trans hL (q2.mono hL.size)⟩
 intro v75 v76 v77 v78 v79 v80 v81 v82 v83 v84 v85 v13 x w6 hR
 obtain ⟨a13,c13,us,rfl,k6,b6⟩:=hR
 have O7:=zaa (owl O7.out b6)
 have O8:=zaa (owl O8.out b6)
 have N9:=zaa (N9.out.later b6)
 have N11:=zaa (N11.out.later b6)
 have K6:=zaa k6
 have S56:=zaa b6.size
 have B6w:Hid (Below w.heap.size w w6):=zaa (B5w.out.trans (b6.mono B5w.out.size))
 have OBB6w:Hid (Below w1.heap.size w1 w6):=zaa (OBB5w.out.trans (b6.mono OBB5w.out.size))
 clear b6 k6 HCa
 simp only [Act.put,List.setIfInBounds_toArray,List.set_cons_succ,List.set_cons_zero]
 go_upto_region 6 with fail
 refine tl_r6 v ob k (D k) o id f t (fun x wx=>∃ad cc D9,x=.slice ad C.length cc∧Ck wx w6.heap.size (.slice ad C.length cc) C D9∧Below w6.heap.size w6 wx) w6 _ _ (by rfl) (by rfl) (by rfl) (by rfl) hk3 (by omega) (fun wx hL=>(hcp.out wx (B6w.out.trans (hL.mono B6w.out.size))).2.2.2) (fun wx hL=>(O.out wx (OBB6w.out.trans (hL.mono OBB6w.out.size))).1) (fun wx hL=>(O.out wx (OBB6w.out.trans (hL.mono OBB6w.out.size))).2.1) (fun wx hL=>?_) ?_
 · refine (HCb.out wx (B6w.out.trans (hL.mono B6w.out.size))).mono ?_
   rintro e w9 ⟨ad,cc,D9,rfl,q1,q2⟩
   exact ⟨_,rfl,ad,cc,D9,rfl,q1.base hL.size,Below.trans hL (q2.mono hL.size)⟩
 intro v86 v87 v88 v89 v90 v91 v92 v93 v94 v95 v96 v14 x w7 hR
 obtain ⟨a14,c14,D9,rfl,k7,b7⟩:=hR
 have O7:=zaa (owl O7.out b7)
 have O8:=zaa (owl O8.out b7)
 have N9:=zaa (N9.out.later b7)
 have N11:=zaa (N11.out.later b7)
 have K6:=zaa (K6.out.chg (Chg.of_below (F:=fun _=>False) b7) (fun _ _ e=>e) (fun _ _ _ _ e=>e))
 have K7:=zaa (k7.base (base':=w5.heap.size) S56.out)
 have B7w:Hid (Below w.heap.size w w7):=zaa (B6w.out.trans (b7.mono B6w.out.size))
 clear b7 k7 HCb OBB6w OBB5w OBB4w OBB3w OBB2w OBB1w O
 simp only [Act.put,List.setIfInBounds_toArray,List.set_cons_succ,List.set_cons_zero]
 have hbd:Bd rl:=fun x hx=>hrok.out x hx
 have HBD:=zaa hbd
 obtain ⟨N,hN⟩:∃N,rl.length=N:=⟨_,rfl⟩
 have HN:=zaa hN
 obtain ⟨M,hM⟩:∃M,C.length=M:=⟨_,rfl⟩
 have HM:=zaa hM
 have HSS:=zaa (sameSP w7 a7 a8 c7 c8 rl (zan O7.out hbd) (zan O8.out hbd) (by omega))
 rw [hN] at HSS A7
 have O7':=O7.out
 rw [hN] at O7'
 have O7:=zaa O7'
 clear O7'
 rw [hN,hM]
 clear hbd hN hM
 go_upto_region 7 with fail
 go_wp2_with fail
 refine HSS.out.mono ?_
 rintro e w8 ⟨rfl,q8⟩
 have Q8:=zaa q8
 clear q8 HSS
 have B8w:Hid (Below w.heap.size w w8):=zaa (B7w.out.trans (Q8.out.below B7w.out.size (fun _ e=>e.elim)))
 have O7:=zaa (Q8.out.owns O7.out (fun _ _ e=>e))
 have N9:=zaa (Q8.out.blk N9.out (fun e=>e))
 have N11:=zaa (Q8.out.blk N11.out (fun e=>e))
 have K6:=zaa (K6.out.chg Q8.out (fun _ _ e=>e) (fun _ _ _ _ e=>e))
 have K7:=zaa (K7.out.chg Q8.out (fun _ _ e=>e) (fun _ _ e=>e))
 have hpos9:∀b∈C,0<b.length:=fun b hb=>(HPOS.out b hb).1
 have HCC:=zaa (sameCP w8 a13 a14 c13 c14 w5.heap.size M _ D9 C HM.out (by have:=K6.out.ck hpos9;rw [HM.out] at this;exact this) (by have:=K7.out;rw [HM.out] at this;exact this) (by have:=HCL.out;have:=HM.out;omega))
 clear hpos9 Q8 K7
 go_wp2_with fail
 refine HCC.out.mono ?_
 rintro e w9 ⟨rfl,q9⟩
 have Q9:=zaa q9
 clear q9 HCC
 have B9w:Hid (Below w.heap.size w w9):=zaa (B8w.out.trans (Q9.out.below B8w.out.size (fun _ e=>e.elim)))
 have O7:=zaa (Q9.out.owns O7.out (fun _ _ e=>e))
 have N9:=zaa (Q9.out.blk N9.out (fun e=>e))
 have N11:=zaa (Q9.out.blk N11.out (fun e=>e))
 have K6:=zaa (K6.out.chg Q9.out (fun _ _ e=>e) (fun _ _ _ _ e=>e))
 have HW9:=zaa (HW.out.later B9w.out)
 have HKP:=zaa (keepsP w9 HW9.out w1.heap.size N c7 a7 rl O7.out HN.out (by have:=HN.out;omega) hrok.out (fun g hg=>by
  have h1:=(A7.out g hg).1
  have h2:=B1w.out.size
  exact ⟨Nat.le_trans HW.out.bel.size (Nat.le_trans h2 h1),fun e=>by have:=(HW.out.tl.tg rkS e).lt;omega,fun k' hk' e=>by have:=HW.out.ltH hk' e;omega⟩))
 have hvl46:Hid (∀b,vl.ownBlock=some b→Tg w9 b 46):=zaa (fun b e=>zab HW9.out.ol b e)
 clear Q9
 unfold pV at HKP
 go_wp2_with fail
 refine HKP.out.mono ?_
 rintro e w10 ⟨rfl,⟨vl2,Ll2,q10⟩,qc⟩
 have HW10:=zaa q10
 have QC:=zaa qc
 clear q10 qc HKP
 have hno:Hid (∀i t,Tg w9 i t→t≠46→t≠36→w2.heap.size≤i∨t≠53→¬((Value.slice a7 N c7).ownBlock=some i∨vl.ownBlock=some i∨i=v)):=zaa (fun i t ht n1 n2 n3 e=>by
  rcases e with e|e|e
  · rcases n3 with n3|n3
    · have:=(A7.out i e).2;omega
    exact n3 (ht.one (zab O7.out i e))
  · exact n1 (ht.one (hvl46.out i e))
  rw [show i=v from e] at ht
  exact n2 (ht.one HW9.out.blk.tg))
 have s23:=S23.out
 have s34:=S34.out
 have N9:=zaa (QC.out.blk N9.out (hno.out g9 53 N9.out.tg (by decide) (by decide) (.inl (by omega))))
 have N11:=zaa (QC.out.blk N11.out (hno.out g11 53 N11.out.tg (by decide) (by decide) (.inl (by omega))))
 have K10:=zaa (K6.out.chg QC.out (fun g hg=>hno.out g 84 (zab K6.out.row g hg) (by decide) (by decide) (.inr (by decide))) (fun u hu g hg=>hno.out g 5 (K6.out.blk hu hg).1 (by decide) (by decide) (.inr (by decide))))
 clear hno QC K6 s23 s34
 have hw5:w.heap.size≤w5.heap.size:=B5w.out.size
 have HHP:=zaa (holdsP w10 HW10.out w5.heap.size M c13 a13 C us HM.out (by have:=HCL.out;have:=HM.out;omega) (fun b hb=>by have:=(HPOS.out b hb).2;omega) ⟨by have:=K10.out.row;rw [HM.out] at this;exact this,fun j b _ hb=>by
  obtain ⟨g,cc,e1,e2,e3,e4⟩:=K10.out.each j b hb
  exact ⟨g,cc,e1,e2,Nat.le_trans HW.out.bel.size (Nat.le_trans hw5 e3),fun e=>by have:=(HW.out.tc.tg rkB e).lt;omega,fun k' hk' e=>by have:=HW.out.ltH hk' e;omega⟩,K10.out.apt,fun g hg e=>by
  have h1:=(K10.out.row.lt g (by rw [HM.out];exact hg)).1
  have h2:=za0 HW.out.oc g e
  omega⟩)
 clear hw5 K10
 unfold pV at HHP
 go_wp2_with fail
 refine HHP.out.mono ?_
 rintro e w11 ⟨rfl,⟨vc2,Lc2,q11⟩,q53⟩
 have HW11:=zaa q11
 have N9:Hid (Blk w11 g9 53 [.int .i64 la'.t,.int .u64 (la'.v:Int)]):=zaa ((q53 g9 N9.out.tg).trans N9.out)
 have N11:Hid (Blk w11 g11 53 [.int .i64 la'.t,.int .u64 (la'.v:Int)]):=zaa ((q53 g11 N11.out.tg).trans N11.out)
 have d0:w11.cell? ⟨g9,0,none⟩=some (.int .i64 la'.t):=N9.out.cell 0
 have d1:w11.cell? ⟨g9,1,none⟩=some (.int .u64 (la'.v:Int)):=N9.out.cell 1
 have d2:w11.cell? ⟨g11,0,none⟩=some (.int .i64 la'.t):=N11.out.cell 0
 have d3:w11.cell? ⟨g11,1,none⟩=some (.int .u64 (la'.v:Int)):=N11.out.cell 1
 clear q11 q53 HHP
 go_wp2_with fail
 go_ret
 exact ⟨rfl,_,_,_,_,_,_,_,_,_,_,HW11.out,HE.out,HTT.out⟩
end
theorem tk_drop {st st':K.Sx} (n:Nat) (o:ByteArray) (h:∀i,i<n→st' i=K.drpS st o i):(K.tkL st' n).length+(K.setL st n o).length=(K.tkL st n).length:=by
 have key:∀r:List Nat,(∀i∈r,i<n)→(r.filterMap fun i=>(st' i).map fun x=>((i:Int),K.leV x.1 x.2)).length+(r.filterMap fun i=>match st i with
  |some x=>if x.1=o then some ((i:Int),K.uV) else none
  |none=>none).length=(r.filterMap fun i=>(st i).map fun x=>((i:Int),K.leV x.1 x.2)).length:=by
  intro r
  induction r with
  |nil=>intro _;rfl
  |cons a r ih=>
   intro hr
   have h1:=ih (fun i hi=>hr i (List.mem_cons_of_mem _ hi))
   have h2:=h a (hr a (by simp))
   unfold K.drpS at h2
   cases e:st a with
   |none=>
    rw [e] at h2
    simp only at h2
    rw [List.filterMap_cons_none (by simp [h2]),List.filterMap_cons_none (by simp [e]),List.filterMap_cons_none (by simp [e])]
    exact h1
   |some x=>
    rw [e] at h2
    simp only at h2
    by_cases hx:x.1=o
    · rw [if_pos hx] at h2
      rw [List.filterMap_cons_none (by simp [h2]),List.filterMap_cons_some (b:=((a:Int),K.uV)) (by simp [e,hx]),List.filterMap_cons_some (b:=((a:Int),K.leV x.1 x.2)) (by simp [e])]
      simp only [List.length_cons]
      omega
    rw [if_neg hx] at h2
    rw [List.filterMap_cons_some (b:=((a:Int),K.leV x.1 x.2)) (by simp [h2]),List.filterMap_cons_none (by simp [e,hx]),List.filterMap_cons_some (b:=((a:Int),K.leV x.1 x.2)) (by simp [e])]
    simp only [List.length_cons]
    omega
 exact key (List.range n) (fun i hi=>List.mem_range.1 hi)
theorem rel_drp {n:Nat} {st:K.Sx} {Z:ByteArray→List En} (h:SZ n st Z) (o:ByteArray) {gv:List Nat} (hg:∀i,i∈gv↔i∈(Z o).flatMap slF):∀i,i<n→relN st gv i=K.drpS st o i:=by
 intro i hi
 unfold relN K.drpS
 cases e:st i with
 |none=>simp
 |some x=>
  by_cases hx:x.1=o
  · have:i∈gv:=(hg i).2 ((h.mem o i).2 ⟨hi,x.2,by rw [e,←hx]⟩)
    rw [if_pos this]
    simp [hx]
  have:¬i∈gv:=fun hm=>by
   obtain ⟨_,d,e2⟩:=(h.mem o i).1 ((hg i).1 hm)
   rw [e] at e2
   cases e2
   exact hx rfl
  rw [if_neg this]
  simp [hx]
section
variable {w0 w w1 w2:World} {v:Nat} {P S R D n:Nat→Nat} {st su:Nat→K.Sx} {Z:Nat→ByteArray→List En} {E:Nat→List De} {F H:Nat→Nat→Prop} {vl vc:Value} {Ll Lc:List Value} {k T ob:Nat} {o:ByteArray} {cs:List Value}
def yD (st:K.Sx) (n:Nat) (o:ByteArray):Nat:=n - ((K.tkL st n).length - (K.setL st n o).length)
def Dk0 (w0:World) (v:Nat) (P S R D n:Nat→Nat) (st su:Nat→K.Sx) (Z:Nat→ByteArray→List En) (E:Nat→List De) (F H:Nat→Nat→Prop) (vl vc:Value) (Ll Lc:List Value) (ob:Nat) (cs:List Value) (wx:World):Prop:=WK w0 wx v P S R D n st su Z E F H vl vc Ll Lc∧Blk wx ob 48 cs
def Dk1 (w0:World) (v:Nat) (P S R D n:Nat→Nat) (st su:Nat→K.Sx) (Z:Nat→ByteArray→List En) (E:Nat→List De) (F H:Nat→Nat→Prop) (vl vc:Value) (Ll Lc:List Value) (k:Nat) (o:ByteArray) (ob:Nat) (cs:List Value) (wx:World):Prop:=∃F1 gv,WK w0 wx v P S R D n (upF st k (relN (st k) gv)) su (upF Z k (rmZ (Z k) o)) E (upF F k F1) H vl vc Ll Lc∧(∀i,i∈gv↔i∈(Z k o).flatMap slF)∧Blk wx ob 48 cs
def Dk2 (w0:World) (v:Nat) (P S R D n:Nat→Nat) (T k:Nat) (y:Nat) (ob:Nat) (cs:List Value) (wx:World):Prop:=∃st su Z E F H vl vc Ll Lc,WK w0 wx v P S R D n st su Z E F H vl vc Ll Lc∧(∀k,k<2→EqK (n k) (st k) (su k) (Z k) (E k))∧(∀k,k<2→(E k).length≤T)∧n k - (K.tkL (st k) (n k)).length=y∧n k - (K.tkL (su k) (n k)).length=y∧Blk wx ob 48 cs
theorem Dk2.wx {y:Nat} (h:Dk2 w0 v P S R D n T k y ob cs w):WX w0 v P S R D n T w:=by
 obtain ⟨st,su,Z,E,F,H,vl,vc,Ll,Lc,h1,h2,h3,_⟩:=h
 exact ⟨st,su,Z,E,F,H,vl,vc,Ll,Lc,h1,h2,h3⟩
theorem Dk2.later {y:Nat} (h:Dk2 w0 v P S R D n T k y ob cs w) (hb:Below w.heap.size w w1):Dk2 w0 v P S R D n T k y ob cs w1:=by
 obtain ⟨st,su,Z,E,F,H,vl,vc,Ll,Lc,h1,h2,h3,h4,h5,h6⟩:=h
 exact ⟨st,su,Z,E,F,H,vl,vc,Ll,Lc,h1.later hb,h2,h3,h4,h5,h6.later hb⟩
theorem Dk0.drop (hk:k<2) (w:World) (h:Dk0 w0 v P S R D n st su Z E F H vl vc Ll Lc ob cs w):
 Calls Tryz.prog 20 #[.pointer (some ⟨S k,0,none⟩),.string o] w fun e w1=>e=.returned (.int .i64 (((Z k o).flatMap slF).length:Int))∧Dk1 w0 v P S R D n st su Z E F H vl vc Ll Lc k o ob cs w1:=by
 refine (sdropP o (F k) (S k) (P k) (n k) (st k) (Z k) w (h.1.sq k hk)).mono ?_
 rintro e w1 ⟨rfl,F1,gv,q1,q2,q3,q4⟩
 exact ⟨rfl,F1,gv,h.1.scall hk q1 q2 q3,q4,q2.blk h.2 ((h.1.sq k hk).no h.2.tg (by decide) (by decide))⟩
theorem Dk1.drop (hk:k<2) (hW:WK w0 w v P S R D n st su Z E F H vl vc Ll Lc) (hE:∀k,k<2→EqK (n k) (st k) (su k) (Z k) (E k)) (hTT:∀k,k<2→(E k).length≤T) (hT:T≤1000) (w1:World) (h:Dk1 w0 v P S R D n st su Z E F H vl vc Ll Lc k o ob cs w1):
 Calls Tryz.prog 31 #[.pointer (some ⟨D k,0,none⟩),.string o] w1 fun e w2=>e=.returned (.int .i64 (((Z k o).flatMap slF).length:Int))∧Dk2 w0 v P S R D n T k (yD (st k) (n k) o) ob cs w2:=by
 obtain ⟨F1,gv,hw,hg,hb⟩:=h
 have hEk:=hTT k hk
 have hn:=hW.nn k hk
 have hz:=(hW.sq k hk).sz
 have hy:=(hW.dq k hk).sz
 have hcnt:=(hE k hk).cnt
 have hsl:=(hE k hk).eqv.slots hz hy o
 refine (dropQ o (H k) (D k) (R k) (n k) (su k) (E k) w1 (hw.dq k hk) (by omega) (by omega)).mono ?_
 rintro e w2 ⟨rfl,H1,q1,q2,q3⟩
 have h2:=hw.dcall hk q1 q2 q3
 have t1:=tk_drop (n k) o (rel_drp hz o hg)
 have t2:=tk_drop (st:=su k) (st':=K.drpS (su k) o) (n k) o (fun _ _=>rfl)
 have u1:=hz.used o
 have u2:=hy.used o
 refine ⟨by rw [hsl],_,_,_,_,_,_,_,_,_,_,h2,fun j hj=>?_,fun j hj=>?_,?_,?_,q2.blk hb ((hw.dq k hk).no hb.tg (by decide))⟩
 · by_cases e:j=k
   · subst e
     rw [zar,zar,zar,zar]
     refine ⟨?_,by omega⟩
     rw [zE_drop]
     exact (hE j hj).eqv.rm o
   rw [zaj _ _ e,zaj _ _ e,zaj _ _ e,zaj _ _ e]
   exact hE j hj
 · by_cases e:j=k
   · subst e
     rw [zar]
     exact Nat.le_trans (List.length_filter_le _ _) hEk
   rw [zaj _ _ e]
   exact hTT j hj
 · rw [zar]
   unfold yD
   omega
 rw [zar]
 unfold yD
 omega
theorem Dk2.left {y:Nat} (hk:k<2) (w:World) (h:Dk2 w0 v P S R D n T k y ob cs w):
 (Calls Tryz.prog 19 #[.pointer (some ⟨P k,0,none⟩)] w fun e w1=>e=.returned (.int .i64 (y:Int))∧Dk2 w0 v P S R D n T k y ob cs w1)∧
 (Calls Tryz.prog 27 #[.pointer (some ⟨R k,0,none⟩)] w fun e w1=>e=.returned (.int .i64 (y:Int))∧Dk2 w0 v P S R D n T k y ob cs w1):=by
 have h':=h
 obtain ⟨st,su,Z,E,F,H,vl,vc,Ll,Lc,h1,h2,h3,h4,h5,h6⟩:=h
 obtain ⟨G0,hp0,_⟩:=(h1.sq k hk).pool
 obtain ⟨q0,B0,v9,X9,_,_,hr0,_⟩:=h1.dq k hk
 refine ⟨(K.leftX G0 (P k) (n k) (st k) w hp0).mono ?_,(K.leftR (R k) q0 (n k) (su k) B0 w hr0).mono ?_⟩
 · rintro e w1 ⟨rfl,hb⟩
   exact ⟨by rw [h4],h'.later hb⟩
 rintro e w1 ⟨rfl,rfl⟩
 exact ⟨by rw [h5],h'⟩
theorem Dk2.cp {y:Nat} (hk:k<2) (h:Dk2 w0 v P S R D n T k y ob cs w):(w.cell? ⟨v,k,none⟩=some (.pointer (some ⟨P k,0,none⟩))∧w.cell? ⟨v,2+k,none⟩=some (.pointer (some ⟨S k,0,none⟩))∧w.cell? ⟨v,4+k,none⟩=some (.pointer (some ⟨R k,0,none⟩))∧w.cell? ⟨v,6+k,none⟩=some (.pointer (some ⟨D k,0,none⟩)))∧Blk w ob 48 cs:=by
 obtain ⟨st,su,Z,E,F,H,vl,vc,Ll,Lc,h1,h2,h3,h4,h5,h6⟩:=h
 exact ⟨h1.cp hk,h6⟩
end
def datI (st:K.Sx) (k:Int):List Int:=((st k.toNat).map fun x=>K.bts x.2).getD []
def lft {α:Type}:List α→List Bool→List α
 |y :: Y,g :: G=>if g then lft Y G else y :: lft Y G
 |_,_=>[]
theorem lft_all {α:Type}:∀Y:List α,lft Y (List.replicate Y.length false)=Y
 |[]=>rfl
 |y :: Y=>by
  rw [List.length_cons,List.replicate_succ]
  unfold lft
  simp [lft_all Y]
theorem lft_mem {α:Type}:∀(Y:List α) (G:List Bool) (x:α),x∈lft Y G→∃j:Nat,Y[j]?=some x∧G[j]?=some false
 |[],G,x,h=>by cases G <;> simp [lft] at h
 |y :: Y,[],x,h=>by simp [lft] at h
 |y :: Y,g :: G,x,h=>by
  unfold lft at h
  cases g with
  |true=>
   obtain ⟨j,h1,h2⟩:=lft_mem Y G x h
   exact ⟨j+1,by simpa using h1,by simpa using h2⟩
  |false=>
   rcases List.mem_cons.1 h with rfl|h
   · exact ⟨0,rfl,rfl⟩
   obtain ⟨j,h1,h2⟩:=lft_mem Y G x h
   exact ⟨j+1,by simpa using h1,by simpa using h2⟩
theorem lft_set {α:Type}:∀(Y:List α) (G:List Bool) (j:Nat) (x:α),Y[j]?=some x→G[j]?=some false→(x :: lft Y (G.set j true)).Perm (lft Y G)
 |[],G,j,x,h,_=>by simp at h
 |y :: Y,[],j,x,_,h=>by simp at h
 |y :: Y,g :: G,0,x,h1,h2=>by
  simp only [List.getElem?_cons_zero,Option.some.injEq] at h1 h2
  subst h1 h2
  rw [List.set_cons_zero]
  unfold lft
  exact List.Perm.refl _
 |y :: Y,g :: G,j+1,x,h1,h2=>by
  simp only [List.getElem?_cons_succ] at h1 h2
  have ih:=lft_set Y G j x h1 h2
  rw [List.set_cons_succ]
  unfold lft
  cases g with
  |true=>exact ih
  |false=>exact (List.Perm.swap y x _).trans (List.Perm.cons y ih)
section
variable {n m:Nat} {st su:K.Sx} {Z Y:ByteArray→List En}
theorem SZ.slp (h:SZ n st Z) (o:ByteArray):(K.slL st n o).Perm (((Z o).flatMap slF).map (fun (i:Nat)=>(i:Int))):=by
 unfold K.slL
 rw [List.perm_ext_iff_of_nodup]
 · intro x
   rw [List.mem_map,List.mem_map]
   constructor
   · rintro ⟨⟨a,v⟩,ha,rfl⟩
     obtain ⟨i,h1,h2,h3,_⟩:=K.mem_setL.1 ha
     exact ⟨i,(h.mem o i).2 ⟨h1,h2⟩,h3.symm⟩
   rintro ⟨i,hi,rfl⟩
   obtain ⟨h1,h2⟩:=(h.mem o i).1 hi
   exact ⟨(_,K.uV),K.mem_setL.2 ⟨i,h1,h2,rfl,rfl⟩,rfl⟩
 · rw [List.Nodup,List.pairwise_map]
   exact (K.set_pw st n o).imp (fun h=>h)
 rw [List.Nodup,List.pairwise_map]
 exact (h.nd o).imp (fun h e=>h (by omega))
theorem SZ.slm (h:SZ n st Z) (o:ByteArray) {x:Int} (hx:x∈K.slL st n o):∃(i:Nat) (d:ByteArray),x=(i:Int)∧i<n∧st i=some (o,d)∧datI st x=K.bts d:=by
 obtain ⟨i,hi,rfl⟩:=List.mem_map.1 ((h.slp o).mem_iff.1 hx)
 obtain ⟨h1,d,h2⟩:=(h.mem o i).1 hi
 exact ⟨i,d,rfl,h1,h2,by simp [datI,h2]⟩
theorem SZ.dat (h:SZ n st Z) (o:ByteArray):((K.slL st n o).map (datI st)).Perm ((kS (Z o)).flatMap fun q=>(gO (gF q.2)).map encC):=by
 refine ((h.slp o).map (datI st)).trans ?_
 have h1:∀l:List En,(∀e∈l,OkE st o e)→((l.flatMap slF).map (fun (i:Nat)=>(i:Int))).map (datI st)=(kS l).flatMap fun q=>(gO (gF q.2)).map encC:=by
  intro l
  induction l with
  |nil=>intro _;rfl
  |cons e l ih=>
   intro hl
   have he:=(hl e (by simp)).lies
   have ih':=ih (fun x hx=>hl x (by simp [hx]))
   have h2:(e.2.1.map (fun (i:Nat)=>(i:Int))).map (datI st)=(gO (gF e.2.2)).map encC:=by
    apply List.ext_getElem?
    intro j
    rw [List.getElem?_map,List.getElem?_map,List.getElem?_map]
    cases hs:e.2.1[j]? with
    |none=>
     have:(gO (gF e.2.2))[j]?=none:=by
      rw [List.getElem?_eq_none_iff] at hs ⊢
      rw [←he.1];exact hs
     rw [this]
     rfl
    |some s=>
     have hj:j<(gO (gF e.2.2)).length:=by rw [←he.1];exact (List.getElem?_eq_some_iff.1 hs).1
     have hg:(gO (gF e.2.2))[j]?=some ((gO (gF e.2.2))[j]'hj):=List.getElem?_eq_getElem hj
     obtain ⟨d,h3,h4⟩:=he.2 j s _ hs hg
     rw [hg]
     simp [datI,h3,h4]
   have e1:((e :: l).flatMap slF)=e.2.1++l.flatMap slF:=rfl
   have e2:kS (e :: l)=(e.1,e.2.2) :: kS l:=rfl
   rw [e1,e2,List.map_append,List.map_append,h2,ih',List.flatMap_cons]
 rw [h1 _ (fun e he=>h.each o e he)]
theorem Eqv.dat (he:Eqv Z Y) (hz:SZ n st Z) (hy:SZ m su Y) (o:ByteArray):((K.slL su m o).map (datI su)).Perm ((K.slL st n o).map (datI st)):=
 (hy.dat o).trans (((he o).symm.flatMap_right _).trans (hz.dat o).symm)
end
structure Fam (RW:World→Value→Nat→Nat→Prop) (X b2:Nat) (w:World) (L As:List Value):Prop where
 orig:∀(j:Nat) (v:Value),L[j]?=some v→∃k,k≤1000000∧RW w v j k
 grown:∀(j:Nat) (a:Value),As[j]?=some a→∃v k,L[j]?=some v∧k≤1000000∧RW w v j k∧RW w a j (k+X)∧∀g,a.ownBlock=some g→v.ownBlock=some g∨b2≤g
 apart:∀(i j:Nat) (v v':Value),i≠j→L[i]?=some v→L[j]?=some v'→∀g,v.ownBlock=some g→¬v'.ownBlock=some g
 old:∀g,OB L g→g<b2
 sz:b2≤w.heap.size
structure Cur (RW:World→Value→Nat→Nat→Prop) (b2:Nat) (w:World) (L As:List Value) (i m k:Nat) (x u:Value):Prop where
 at':L[i]?=some x
 le:k≤1000000
 row:RW w x i k
 cur:RW w u i (k+m)
 blk:∀g,u.ownBlock=some g→x.ownBlock=some g∨(b2≤g∧¬OB As g)
section
variable {RW:World→Value→Nat→Nat→Prop} {t:TypeId} {X b2:Nat} {w w':World} {L As:List Value} {i m k:Nat} {x u:Value}
theorem RowK.later (K:RowK RW t) {v:Value} {i k:Nat} (h:RW w v i k) (b:Below w.heap.size w w'):RW w' v i k:=K.chg h (Chg.of_below (F:=fun _=>False) b) (fun _ _ e=>e)
theorem Fam.chg {F:Nat→Prop} (h:Fam RW X b2 w L As) (K:RowK RW t) (c:Chg F w w') (hF:∀g,OB L g∨OB As g→¬F g):Fam RW X b2 w' L As:=
 ⟨fun j v hj=>by
  obtain ⟨k,h1,h2⟩:=h.orig j v hj
  exact ⟨k,h1,K.chg h2 c (fun g hg=>hF g (.inl ⟨v,List.mem_of_getElem? hj,hg⟩))⟩,
  fun j a hj=>by
   obtain ⟨v,k,h1,h2,h3,h4,h5⟩:=h.grown j a hj
   exact ⟨v,k,h1,h2,K.chg h3 c (fun g hg=>hF g (.inl ⟨v,List.mem_of_getElem? h1,hg⟩)),K.chg h4 c (fun g hg=>hF g (.inr ⟨a,List.mem_of_getElem? hj,hg⟩)),h5⟩,
  h.apart,h.old,Nat.le_trans h.sz c.size⟩
theorem Fam.tg (h:Fam RW X b2 w L As) (K:RowK RW t) {g:Nat} (hg:OB L g∨OB As g):Tg w g t:=by
 rcases hg with ⟨v,hv,e⟩|⟨v,hv,e⟩
 · obtain ⟨j,hj⟩:=List.getElem?_of_mem hv
   obtain ⟨_,_,h2⟩:=h.orig j v hj
   exact K.tg h2 g e
 obtain ⟨j,hj⟩:=List.getElem?_of_mem hv
 obtain ⟨_,_,_,_,_,h4,_⟩:=h.grown j v hj
 exact K.tg h4 g e
theorem Fam.later (h:Fam RW X b2 w L As) (K:RowK RW t) (b:Below w.heap.size w w'):Fam RW X b2 w' L As:=h.chg (F:=fun _=>False) K (Chg.of_below b) (fun _ _ e=>e)
theorem Cur.later (h:Cur RW b2 w L As i m k x u) (K:RowK RW t) (b:Below w.heap.size w w'):Cur RW b2 w' L As i m k x u:=⟨h.at',h.le,K.later h.row b,K.later h.cur b,h.blk⟩
theorem Cur.new (h:Fam RW X b2 w L As) (hx:L[i]?=some x):∃k,Cur RW b2 w L As i 0 k x x:=by
 obtain ⟨k,h1,h2⟩:=h.orig i x hx
 exact ⟨k,hx,h1,h2,h2,fun g hg=>.inl hg⟩
theorem Cur.push {g' c':Nat} (K:RowK RW t) (h:Fam RW X b2 w L As) (hi:As.length≤i) (c:Cur RW b2 w L As i m k x u) (hR:RW w' (.slice (some ⟨g',0,none⟩) (k+m+1) c') i (k+(m+1)))
 (hw:(u.ownBlock=some g'∧Chg (fun b=>b=g') w w'∧(x.ownBlock=some g'→RW w' x i k))∨(w.heap.size≤g'∧Below w.heap.size w w')):
 Fam RW X b2 w' L As∧Cur RW b2 w' L As i (m+1) k x (.slice (some ⟨g',0,none⟩) (k+m+1) c')∧Chg (fun b=>u.ownBlock=some b) w w':=by
 have hAs:∀(j:Nat) (a:Value),As[j]?=some a→j<i:=fun j a hj=>by
  have:=(List.getElem?_eq_some_iff.1 hj).1
  omega
 rcases hw with ⟨hb,hch,hxr⟩|⟨hb,hbel⟩
 · have hx2:RW w' x i k:=by
    by_cases e:x.ownBlock=some g'
    · exact hxr e
    exact K.chg c.row hch (fun g hg (e9:g=g')=>e (by rw [hg,e9]))
   have hne:∀(j:Nat) (v:Value),L[j]?=some v→j≠i→¬v.ownBlock=some g':=by
    intro j v hj hji e
    rcases c.blk g' hb with h2|⟨h2,_⟩
    · exact h.apart j i v x hji hj c.at' g' e h2
    have:=h.old g' ⟨v,List.mem_of_getElem? hj,e⟩;omega
   have hneA:∀(j:Nat) (a:Value),As[j]?=some a→¬a.ownBlock=some g':=by
    intro j a hj e
    obtain ⟨v,_,e1,_,_,_,e5⟩:=h.grown j a hj
    rcases c.blk g' hb with h2|⟨h2,h3⟩
    · rcases e5 g' e with e6|e6
      · exact h.apart j i v x (by have:=hAs j a hj;omega) e1 c.at' g' e6 h2
      have:=h.old g' ⟨x,List.mem_of_getElem? c.at',h2⟩;omega
    exact h3 ⟨a,List.mem_of_getElem? hj,e⟩
   refine ⟨⟨fun j v hj=>?_,fun j a hj=>?_,h.apart,h.old,?_⟩,⟨c.at',c.le,hx2,hR,fun g hg=>c.blk g ?_⟩,?_⟩
   · by_cases e:j=i
     · subst e
       have:=hj.symm.trans c.at'
       injection this with this
       subst this
       exact ⟨k,c.le,hx2⟩
     obtain ⟨k9,e1,e2⟩:=h.orig j v hj
     exact ⟨k9,e1,K.chg e2 hch (fun g hg (e9:g=g')=>hne j v hj e (by rw [hg,e9]))⟩
   · obtain ⟨v,k9,e1,e2,e3,e4,e5⟩:=h.grown j a hj
     exact ⟨v,k9,e1,e2,K.chg e3 hch (fun g hg (e9:g=g')=>hne j v e1 (by have:=hAs j a hj;omega) (by rw [hg,e9])),K.chg e4 hch (fun g hg (e9:g=g')=>hneA j a hj (by rw [hg,e9])),e5⟩
   · have:=h.sz;have:=hch.size;omega
   · have hg2:some g'=some g:=hg
     rw [hb,hg2]
   exact hch.mono (G:=fun b=>u.ownBlock=some b) (fun b _ (e:b=g')=>by rw [e];exact hb)
 refine ⟨h.later K hbel,⟨c.at',c.le,K.later c.row hbel,hR,fun g hg=>.inr ?_⟩,Chg.of_below (F:=fun b=>u.ownBlock=some b) hbel⟩
 have hg2:some g'=some g:=hg
 injection hg2 with hg2
 subst hg2
 refine ⟨Nat.le_trans h.sz hb,fun hO=>?_⟩
 have:=(h.tg K (.inr hO)).lt
 omega
theorem Fam.add (h:Fam RW X b2 w L As) (hi:As.length=i) (c:Cur RW b2 w L As i X k x u):Fam RW X b2 w L (As++[u]):=by
 refine ⟨h.orig,fun j a hj=>?_,h.apart,h.old,h.sz⟩
 by_cases e:j<As.length
 · rw [List.getElem?_append_left e] at hj;exact h.grown j a hj
 rw [List.getElem?_append_right (by omega)] at hj
 have hj0:j - As.length=0:=by
  have:=(List.getElem?_eq_some_iff.1 hj).1
  simpa using this
 rw [hj0] at hj
 simp at hj
 subst hj
 have:j=i:=by omega
 subst this
 exact ⟨x,k,c.at',c.le,c.row,c.cur,fun g hg=>(c.blk g hg).imp (fun e=>e) (fun e=>e.1)⟩
theorem Fam.of_ot {base:Nat} (K:RowK RW t) (h:OtL RW base w L):Fam RW X w.heap.size w L []:=
 ⟨h.row,fun j a hj=>by simp at hj,h.apt,fun g hg=>(h.tg K hg).lt,Nat.le_refl _⟩
end
structure LK (b2:Nat) (w0 w:World) (v:Nat) (cs:List Value) (vl vc va vd:Value) (Ll Lc As Bs:List Value):Prop where
 bel:Below w0.heap.size w0 w
 blk:Blk w v 36 cs
 ol:w.ownsRow w0.heap.size 46 1 vl Ll.length Ll
 oc:w.ownsRow w0.heap.size 84 1 vc Lc.length Lc
 oa:w.ownsRow w0.heap.size 46 1 va As.length As
 od:w.ownsRow w0.heap.size 84 1 vd Bs.length Bs
 aa:∀g,va.ownBlock=some g→¬vl.ownBlock=some g
 ad:∀g,vd.ownBlock=some g→¬vc.ownBlock=some g
 fl:Fam RWs 40 b2 w Ll As
 fc:Fam RWb 64 b2 w Lc Bs
 lo:(∀g,OB Ll g→w0.heap.size≤g)∧(∀g,OB Lc g→w0.heap.size≤g)∧w0.heap.size≤b2
section
variable {b2:Nat} {w0 w w':World} {v:Nat} {cs:List Value} {vl vc va vd:Value} {Ll Lc As Bs:List Value}
theorem LK.later (h:LK b2 w0 w v cs vl vc va vd Ll Lc As Bs) (b:Below w.heap.size w w'):LK b2 w0 w' v cs vl vc va vd Ll Lc As Bs:=by
 have c:=Chg.of_below (F:=fun _=>False) b
 exact ⟨h.bel.trans (b.mono h.bel.size),h.blk.later b,c.owns h.ol (fun _ _ e=>e),c.owns h.oc (fun _ _ e=>e),c.owns h.oa (fun _ _ e=>e),c.owns h.od (fun _ _ e=>e),h.aa,h.ad,h.fl.later rkS b,h.fc.later rkB b,h.lo⟩
theorem LK.growL {F:Nat→Prop} (h:LK b2 w0 w v cs vl vc va vd Ll Lc As Bs) (c:Chg F w w') (hF:∀b,F b→Tg w b 53∧w0.heap.size≤b) (hf:Fam RWs 40 b2 w' Ll As):LK b2 w0 w' v cs vl vc va vd Ll Lc As Bs:=by
 have hT:∀i t,Tg w i t→t≠53→¬F i:=fun i t ht hne hg=>hne (ht.one (hF i hg).1)
 exact ⟨h.bel.trans (c.below h.bel.size (fun b hb=>(hF b hb).2)),c.blk h.blk (hT v 36 h.blk.tg (by decide)),c.owns h.ol (fun g hg=>hT g 46 (zab h.ol g hg) (by decide)),c.owns h.oc (fun g hg=>hT g 84 (zab h.oc g hg) (by decide)),c.owns h.oa (fun g hg=>hT g 46 (zab h.oa g hg) (by decide)),c.owns h.od (fun g hg=>hT g 84 (zab h.od g hg) (by decide)),h.aa,h.ad,hf,h.fc.chg rkB c (fun g hg=>hT g 5 (h.fc.tg rkB hg) (by decide)),h.lo⟩
theorem LK.growC {F:Nat→Prop} (h:LK b2 w0 w v cs vl vc va vd Ll Lc As Bs) (c:Chg F w w') (hF:∀b,F b→Tg w b 5∧w0.heap.size≤b) (hf:Fam RWb 64 b2 w' Lc Bs):LK b2 w0 w' v cs vl vc va vd Ll Lc As Bs:=by
 have hT:∀i t,Tg w i t→t≠5→¬F i:=fun i t ht hne hg=>hne (ht.one (hF i hg).1)
 exact ⟨h.bel.trans (c.below h.bel.size (fun b hb=>(hF b hb).2)),c.blk h.blk (hT v 36 h.blk.tg (by decide)),c.owns h.ol (fun g hg=>hT g 46 (zab h.ol g hg) (by decide)),c.owns h.oc (fun g hg=>hT g 84 (zab h.oc g hg) (by decide)),c.owns h.oa (fun g hg=>hT g 46 (zab h.oa g hg) (by decide)),c.owns h.od (fun g hg=>hT g 84 (zab h.od g hg) (by decide)),h.aa,h.ad,h.fl.chg rkS c (fun g hg=>hT g 53 (h.fl.tg rkS hg) (by decide)),hf,h.lo⟩
theorem LK.addL {k:Nat} {x u:Value} {w9:World} {g9 c9:Nat} {ob:Obj} (h:LK b2 w0 w v cs vl vc va vd Ll Lc As Bs) (c:Cur RWs b2 w Ll As As.length 40 k x u) (hp:Pushed (w.alloc ob) w9 va g9) (r:w9.ownsRow w0.heap.size 46 1 (.slice (some ⟨g9,0,none⟩) (As.length+1) c9) (As.length+1) (As++[u])):
 LK b2 w0 w9 v cs vl vc (.slice (some ⟨g9,0,none⟩) (As.length+1) c9) vd Ll Lc (As++[u]) Bs:=by
 obtain ⟨k1,k2⟩:=hp.chg
 have hT:∀i t,Tg w i t→t≠46→¬va.ownBlock=some i:=fun i t ht hne hg=>hne (ht.one (zab h.oa i hg))
 have hl:=h.bel.size
 refine ⟨h.bel.trans (k1.below hl (fun b hb=>(h.oa.lt b hb).1)),k1.blk h.blk (hT v 36 h.blk.tg (by decide)),k1.owns h.ol (fun g hg e=>h.aa g e hg),k1.owns h.oc (fun g hg=>hT g 84 (zab h.oc g hg) (by decide)),by simpa using r,k1.owns h.od (fun g hg=>hT g 84 (zab h.od g hg) (by decide)),fun g hg hg2=>?_,h.ad,?_,h.fc.chg rkB k1 (fun g hg=>hT g 5 (h.fc.tg rkB hg) (by decide)),h.lo⟩
 · have e:some g9=some g:=hg
   injection e with e
   subst e
   rcases k2 with k2|⟨g',k2,k3⟩
   · exact h.aa g9 k2.symm hg2
   injection k2 with k2
   have:=za0 h.ol g9 hg2
   omega
 exact (h.fl.add rfl c).chg rkS k1 (fun g hg=>hT g 53 ((h.fl.add rfl c).tg rkS hg) (by decide))
theorem LK.addC {k:Nat} {x u:Value} {w9:World} {g9 c9:Nat} {ob:Obj} (h:LK b2 w0 w v cs vl vc va vd Ll Lc As Bs) (c:Cur RWb b2 w Lc Bs Bs.length 64 k x u) (hp:Pushed (w.alloc ob) w9 vd g9) (r:w9.ownsRow w0.heap.size 84 1 (.slice (some ⟨g9,0,none⟩) (Bs.length+1) c9) (Bs.length+1) (Bs++[u])):
 LK b2 w0 w9 v cs vl vc va (.slice (some ⟨g9,0,none⟩) (Bs.length+1) c9) Ll Lc As (Bs++[u]):=by
 obtain ⟨k1,k2⟩:=hp.chg
 have hT:∀i t,Tg w i t→t≠84→¬vd.ownBlock=some i:=fun i t ht hne hg=>hne (ht.one (zab h.od i hg))
 have hl:=h.bel.size
 refine ⟨h.bel.trans (k1.below hl (fun b hb=>(h.od.lt b hb).1)),k1.blk h.blk (hT v 36 h.blk.tg (by decide)),k1.owns h.ol (fun g hg=>hT g 46 (zab h.ol g hg) (by decide)),k1.owns h.oc (fun g hg e=>h.ad g e hg),k1.owns h.oa (fun g hg=>hT g 46 (zab h.oa g hg) (by decide)),by simpa using r,h.aa,fun g hg hg2=>?_,h.fl.chg rkS k1 (fun g hg=>hT g 53 (h.fl.tg rkS hg) (by decide)),?_,h.lo⟩
 · have e:some g9=some g:=hg
   injection e with e
   subst e
   rcases k2 with k2|⟨g',k2,k3⟩
   · exact h.ad g9 k2.symm hg2
   injection k2 with k2
   have:=za0 h.oc g9 hg2
   omega
 exact (h.fc.add rfl c).chg rkB k1 (fun g hg=>hT g 5 ((h.fc.add rfl c).tg rkB hg) (by decide))
theorem LK.ofWK {P S R D n:Nat→Nat} {st su:Nat→K.Sx} {Z:Nat→ByteArray→List En} {E:Nat→List De} {F H:Nat→Nat→Prop} (h:WK w0 w v P S R D n st su Z E F H vl vc Ll Lc):LK w.heap.size w0 w v (wkC P S R D vl vc) vl vc (.slice none 0 0) (.slice none 0 0) Ll Lc [] []:=
 ⟨h.bel,h.blk,h.ol,h.oc,World.ownsRow_nil _ _ _ _,World.ownsRow_nil _ _ _ _,fun g hg=>(by cases hg),fun g hg=>(by cases hg),Fam.of_ot rkS h.tl,Fam.of_ot rkB h.tc,h.tl.lo,h.tc.lo,h.bel.size⟩
end
theorem rw_beyond {w:World} {t:TypeId} {v:Value} {xs:List Value} {g j:Nat} {u:Value} (h:K.Rw w t v xs) (hj:xs.length≤j):K.Rw (w.setCell ⟨g,j,none⟩ u) t v xs:=by
 rcases h with ⟨h0,h1⟩|⟨g',cap,cur,mk,hv,hh,hm,hs,hl,hc,ht⟩
 · exact .inl ⟨h0,h1⟩
 by_cases e:g'=g
 · subst e
   refine .inr ⟨g',cap,cur.setIfInBounds j u,mk,hv,?_,hm,by simpa using hs,hl,hc,?_⟩
   · simp [World.setCell,Array.getElem?_modify,hh]
   rw [Array.toList_setIfInBounds,List.take_set_of_le hj,ht]
 refine .inr ⟨g',cap,cur,mk,hv,?_,hm,hs,hl,hc,ht⟩
 simp [World.setCell,Array.getElem?_modify,hh,show ¬g=g' from fun h=>e h.symm]
theorem owns_head {w w':World} {base:Nat} {e:TypeId} {g k n c cx cp:Nat} {xs ys zs:List Value} (hx:w.ownsRow 0 e 2 (.slice (some ⟨g,0,none⟩) k cx) k zs) (hu:w.ownsRow base e 2 (.slice (some ⟨g,0,none⟩) n c) n xs) (hr:w'.ownsRow base e 2 (.slice (some ⟨g,0,none⟩) (n+1) c) (n+1) ys) (hk:k≤n) (hp:ys.take (k*2)=zs):w'.ownsRow 0 e 2 (.slice (some ⟨g,0,none⟩) k cx) k zs:=by
 obtain ⟨hx0,hx1⟩:=hx
 obtain ⟨hu0,hu1⟩:=hu
 obtain ⟨hr0,hr1⟩:=hr
 rcases hx1 with ⟨h9,_⟩|⟨g1,c1,cur1,e1,_,b1,l1,m1,s1,t1⟩
 · cases h9
 rcases hu1 with ⟨h9,_⟩|⟨g2,c2,cur2,e2,_,b2,l2,m2,s2,t2⟩
 · cases h9
 rcases hr1 with ⟨h9,_⟩|⟨g3,c3,cur3,e3,_,b3,l3,m3,s3,t3⟩
 · cases h9
 simp only [Value.slice.injEq,Option.some.injEq,Addr.mk.injEq] at e1 e2 e3
 obtain ⟨⟨rfl,_⟩,_,rfl⟩:=e1
 obtain ⟨⟨rfl,_⟩,_,rfl⟩:=e2
 obtain ⟨⟨rfl,_⟩,_,rfl⟩:=e3
 rw [b1] at b2
 simp only [Option.some.injEq,Obj.cells.injEq] at b2
 obtain ⟨rfl,_⟩:=b2
 refine ⟨hx0,.inr ⟨g,cx,cur3,rfl,Nat.zero_le _,b3,l1,m1,by omega,?_⟩⟩
 rw [←hp,←t3,List.take_take]
 congr 1
 omega
theorem run_pushS {P:Program} (w:World) (t ty e:TypeId) (i:TypeInfo) (z:Value) (bytes:Nat) (ht:P.underlying t=some (.slice e)) (hi:P.info? e=some i) (hz:i.zero=some z)
 (hsize:i.size=2) (hby:i.bytes=bytes) (hzs:z.cells.size=2) (base:Nat) (v:Value) (n:Nat) (xs:List Value) (hown:w.ownsRow base e 2 v n xs)
 (ad:Addr) (ns:List Value) (hl:ns.length=1*2) (hnews:∀j x,ns[j]?=some x→w.cell? (ad.add j)=some x) (hone:∀x∈ns,x.oneCell'=true) (h63:n+1≤maxLen) (hbytes:(n+1)*bytes≤140737488355328) (hbase:base≤w.heap.size):
 ∃g' c' w',(Builtin.append_ #[t,t] ty #[v,.slice (some ad) 1 1]).run P w=.ok (.slice (some ⟨g',0,none⟩) (n+1) c') w'∧
  w'.ownsRow base e 2 (.slice (some ⟨g',0,none⟩) (n+1) c') (n+1) (xs++ns)∧((v=.slice (some ⟨g',0,none⟩) n c'∧w.grownBy w' (some g'))∨(w.heap.size≤g'∧w.grownBy w' none)):=by
 rcases hown.2 with ⟨rfl,rfl⟩|⟨g,cap,cur,rfl,hbg,hg,hnc,hcm,hcs,htake⟩
 · have hxs:xs=[]:=List.eq_nil_of_length_eq_zero (by simpa using hown.1)
   subst hxs
   obtain ⟨v',w',hr,ho,hgr,hiff⟩:=run_append_own (P:=P) w w.heap.size t ty e i z 2 bytes ht hi hz hsize hby hzs (by omega) (.slice none 0 0) 0 [] (World.ownsRow_nil _ _ _ _) ad 1 1 ns hl hnews hone h63 hbytes (Nat.le_refl _)
   rcases ho.2 with ⟨_,h0⟩|⟨g',c',cur',rfl,hb',hh,hrest⟩
   · omega
   exact ⟨g',c',w',by simpa using hr,⟨by simp [hl],.inr ⟨g',c',cur',rfl,by omega,hh,by simpa using hrest⟩⟩,.inr ⟨hb',by simpa [Value.ownBlock] using hgr⟩⟩
 by_cases hroom:n+1≤cap
 · obtain ⟨w',hr,ho,hgr⟩:=run_append_fits (P:=P) w base t ty e i 2 ht hi hsize g n cap xs hown ad 1 1 ns hl hnews hone hroom
   exact ⟨g,cap,w',hr,ho,.inl ⟨rfl,hgr⟩⟩
 obtain ⟨v',w',hr,ho,hgr⟩:=run_append_arg_grows (P:=P) w t ty e i z 2 bytes ht hi hz hsize hby hzs (by omega) ⟨g,0,none⟩ n cap xs hown.1 (hown.cells rfl) ad 1 1 ns hl hnews (by omega) h63 hbytes
 rcases ho.2 with ⟨_,h0⟩|⟨g',c',cur',rfl,hb',hh,hrest⟩
 · omega
 exact ⟨g',c',w',hr,⟨by rw [List.length_append,hown.1,hl,Nat.add_mul],.inr ⟨g',c',cur',rfl,by omega,hh,hrest⟩⟩,.inr ⟨hb',hgr⟩⟩
theorem info53q:∃i,Tryz.prog.info? 53=some i∧i.zero=some (.agg #[.int .i64 0,.int .u64 0])∧i.size=2∧i.bytes=16:=K.info_parts (show (Tryz.prog.info? 53).map (fun i=>(i.zero,i.size,i.bytes))=some (some (.agg #[.int .i64 0,.int .u64 0]),2,16) by kernel_rfl)
theorem info5q:∃i,Tryz.prog.info? 5=some i∧i.zero=some (.int .u8 0)∧i.size=1∧i.bytes=1:=K.info_parts (show (Tryz.prog.info? 5).map (fun i=>(i.zero,i.size,i.bytes))=some (some (.int .u8 0),1,1) by kernel_rfl)
theorem rep_next {α:Type} (n:Nat) (x:α):List.replicate n x++[x]=List.replicate (n+1) x:=by rw [List.replicate_succ']
theorem cS_take (k m:Nat) (x:Sm):(cS (List.replicate (k+m) x)).take (k*2)=cS (List.replicate k x):=by
 rw [←List.replicate_append_replicate,zbs]
 exact List.take_left' (by rw [za9,List.length_replicate])
section
variable {b2:Nat} {w0 w:World} {v:Nat} {cs:List Value} {vl vc va vd:Value} {Ll Lc As Bs:List Value} {i m k c:Nat} {x:Value} {ad:Option Addr}
theorem LK.pushL (h:LK b2 w0 w v cs vl vc va vd Ll Lc As Bs) (hA:As.length=i) (hC:Cur RWs b2 w Ll As i m k x (.slice ad (k+m) c)) (hm:m≤1000):
 ∃g9 c9 w9,(Builtin.append_ #[46,46] 46 #[.slice ad (k+m) c,.slice (some ⟨w.heap.size,0,none⟩) 1 1]).run Tryz.prog (w.alloc (.cells #[.int .i64 (mkS i).t,.int .u64 ((mkS i).v:Int)] 53))=.ok (.slice (some ⟨g9,0,none⟩) (k+m+1) c9) w9∧LK b2 w0 w9 v cs vl vc va vd Ll Lc As Bs∧Cur RWs b2 w9 Ll As i (m+1) k x (.slice (some ⟨g9,0,none⟩) (k+m+1) c9):=by
 have ba:Below w.heap.size w (w.alloc (.cells #[.int .i64 (mkS i).t,.int .u64 ((mkS i).v:Int)] 53)):=(Below.refl _ _).alloc (Nat.le_refl _) _
 have h':=h.later ba
 have c':=hC.later rkS ba
 have hle:=hC.le
 obtain ⟨i0,hi0,hz0,hz1,hz2⟩:=info53q
 have B:Blk (w.alloc (.cells #[.int .i64 (mkS i).t,.int .u64 ((mkS i).v:Int)] 53)) w.heap.size 53 [.int .i64 (mkS i).t,.int .u64 ((mkS i).v:Int)]:=Blk.new w 53 _
 have hcur:(w.alloc (.cells #[.int .i64 (mkS i).t,.int .u64 ((mkS i).v:Int)] 53)).ownsRow 0 53 2 (.slice ad (k+m) c) (k+m) (cS (List.replicate (k+m) (mkS i))):=c'.cur
 obtain ⟨g',c9,w',hr,ho,hcase⟩:=run_pushS (P:=Tryz.prog) _ 46 46 53 i0 (.agg #[.int .i64 0,.int .u64 0]) 16 Tryz.underlying46 hi0 hz0 hz1 hz2 rfl 0 _ _ _ hcur ⟨w.heap.size,0,none⟩ [.int .i64 (mkS i).t,.int .u64 ((mkS i).v:Int)] rfl (fun j u hu=>by
  have:=B.cell (0+j)
  rw [Addr.add_lit,this,Nat.zero_add]
  exact hu) (by intro u hu;simp at hu;rcases hu with rfl|rfl <;> rfl) (by unfold maxLen;omega) (by omega) (Nat.zero_le _)
 have hcs:cS (List.replicate (k+m) (mkS i))++[.int .i64 (mkS i).t,.int .u64 ((mkS i).v:Int)]=cS (List.replicate (k+m+1) (mkS i)):=by
  rw [←rep_next (k+m),zbs]
  rfl
 rw [hcs] at ho
 have hw:((Value.slice ad (k+m) c).ownBlock=some g'∧Chg (fun b=>b=g') (w.alloc (.cells #[.int .i64 (mkS i).t,.int .u64 ((mkS i).v:Int)] 53)) w'∧(x.ownBlock=some g'→RWs w' x i k))∨((w.alloc (.cells #[.int .i64 (mkS i).t,.int .u64 ((mkS i).v:Int)] 53)).heap.size≤g'∧Below (w.alloc (.cells #[.int .i64 (mkS i).t,.int .u64 ((mkS i).v:Int)] 53)).heap.size (w.alloc (.cells #[.int .i64 (mkS i).t,.int .u64 ((mkS i).v:Int)] 53)) w'):=by
  rcases hcase with ⟨e,hg⟩|⟨e,hg⟩
  · refine .inl ⟨by rw [e];rfl,Chg.of_grown hg (fun j hj=>by cases hj;rfl),fun hx=>?_⟩
    rw [e] at hcur
    have hrow:(w.alloc (.cells #[.int .i64 (mkS i).t,.int .u64 ((mkS i).v:Int)] 53)).ownsRow 0 53 2 x k (cS (List.replicate k (mkS i))):=c'.row
    obtain ⟨xa,xc,rfl,h1,h2,_⟩:=za3 hrow
    cases xa with
    |none=>cases hx
    |some xa=>
     obtain ⟨b,off,sp⟩:=xa
     obtain ⟨rfl,rfl⟩:=h2 _ rfl
     obtain rfl:b=g':=by simpa [Value.ownBlock] using hx
     exact owns_head (cp:=0) hrow hcur ho (by omega) (by rw [show k+m+1=k+(m+1) from rfl];exact cS_take k (m+1) _)
  exact .inr ⟨e,(Below.refl _ _).grown hg (Nat.le_refl _) (fun k hk=>by cases hk)⟩
 obtain ⟨p1,p2,p3⟩:=Cur.push rkS h'.fl (Nat.le_of_eq hA) c' ho hw
 refine ⟨g',c9,w',hr,h'.growL p3 (fun b hb=>⟨rkS.tg c'.cur b hb,?_⟩) p1,p2⟩
 rcases c'.blk b hb with h1|⟨h1,_⟩
 · exact h.lo.1 b ⟨_,List.mem_of_getElem? hC.at',h1⟩
 have:=h.lo.2.2;omega
theorem LK.pushC (h:LK b2 w0 w v cs vl vc va vd Ll Lc As Bs) (hA:Bs.length=i) (hC:Cur RWb b2 w Lc Bs i m k x (.slice ad (k+m) c)) (hm:m≤1000):
 ∃g9 c9 w9,(Builtin.append_ #[84,84] 84 #[.slice ad (k+m) c,.slice (some ⟨w.heap.size,0,none⟩) 1 1]).run Tryz.prog (w.alloc (.cells #[.int .u8 (mkB i)] 5))=.ok (.slice (some ⟨g9,0,none⟩) (k+m+1) c9) w9∧LK b2 w0 w9 v cs vl vc va vd Ll Lc As Bs∧Cur RWb b2 w9 Lc Bs i (m+1) k x (.slice (some ⟨g9,0,none⟩) (k+m+1) c9):=by
 have ba:Below w.heap.size w (w.alloc (.cells #[.int .u8 (mkB i)] 5)):=(Below.refl _ _).alloc (Nat.le_refl _) _
 have h':=h.later ba
 have c':=hC.later rkB ba
 have hle:=hC.le
 obtain ⟨i0,hi0,hz0,hz1,hz2⟩:=info5q
 have B:Blk (w.alloc (.cells #[.int .u8 (mkB i)] 5)) w.heap.size 5 [.int .u8 (mkB i)]:=Blk.new w 5 _
 have hcur:K.Rw (w.alloc (.cells #[.int .u8 (mkB i)] 5)) 5 (.slice ad (k+m) c) (zae (List.replicate (k+m) (mkB i))):=c'.cur
 have hlen:(zae (List.replicate (k+m) (mkB i))).length=k+m:=by rw [zaf,List.length_replicate]
 obtain ⟨g',c9,w',hr,hR,hw0⟩:=hcur.push (P:=Tryz.prog) 84 84 i0 (.int .u8 0) 1 Tryz.underlying84 hi0 hz0 hz1 hz2 rfl ⟨w.heap.size,0,none⟩ (.int .u8 (mkB i)) (B.cell 0) rfl (by rw [hlen];unfold maxLen;omega) (by rw [hlen];omega)
 rw [hlen] at hr hR hw0
 have hcs:zae (List.replicate (k+m) (mkB i))++[.int .u8 (mkB i)]=zae (List.replicate (k+m+1) (mkB i)):=by
  rw [←rep_next (k+m),za2]
  rfl
 rw [hcs] at hR
 have hw:((Value.slice ad (k+m) c).ownBlock=some g'∧Chg (fun b=>b=g') (w.alloc (.cells #[.int .u8 (mkB i)] 5)) w'∧(x.ownBlock=some g'→RWb w' x i k))∨((w.alloc (.cells #[.int .u8 (mkB i)] 5)).heap.size≤g'∧Below (w.alloc (.cells #[.int .u8 (mkB i)] 5)).heap.size (w.alloc (.cells #[.int .u8 (mkB i)] 5)) w'):=by
  rcases hw0 with ⟨e,cap,hwe,_⟩|h9
  · refine .inl ⟨e,by rw [hwe];exact Chg.set ⟨g',k+m,none⟩ _ _,fun hx=>?_⟩
    have hrow:K.Rw (w.alloc (.cells #[.int .u8 (mkB i)] 5)) 5 x (zae (List.replicate k (mkB i))):=c'.row
    rw [hwe]
    exact rw_beyond hrow (by rw [zaf,List.length_replicate];omega)
  exact .inr h9
 obtain ⟨p1,p2,p3⟩:=Cur.push rkB h'.fc (Nat.le_of_eq hA) c' hR hw
 refine ⟨g',c9,w',hr,h'.growC p3 (fun b hb=>⟨rkB.tg c'.cur b hb,?_⟩) p1,p2⟩
 rcases c'.blk b hb with h1|⟨h1,_⟩
 · exact h.lo.2.1 b ⟨_,List.mem_of_getElem? hC.at',h1⟩
 have:=h.lo.2.2;omega
end
theorem rowform {w:World} {t:TypeId} {v:Value} {xs:List Value} (h:K.Rw w t v xs) {N:Nat} (hN:xs.length=N):∃ad c,v=.slice ad N c∧(N≠0→∃g,ad=some ⟨g,0,none⟩):=by
 subst hN;exact h.slice
theorem zf4 {w:World} {v:Value} {i k:Nat} (h:RWs w v i k):∃ad c,v=.slice ad k c∧(k≠0→∃g,ad=some ⟨g,0,none⟩):=by
 have h':w.ownsRow 0 53 2 v k (cS (List.replicate k (mkS i))):=h
 rcases h'.2 with ⟨rfl,rfl⟩|⟨g,cap,cur,rfl,_⟩
 · exact ⟨none,0,rfl,fun e=>absurd rfl e⟩
 exact ⟨_,cap,rfl,fun _=>⟨g,rfl⟩⟩
theorem zc3 {w:World} {g i k c:Nat} (h:RWs w (.slice (some ⟨g,0,none⟩) k c) i k) {j:Nat} (hj:j<k):w.cell? ⟨g,j*2,none⟩=some (.int .i64 (mkS i).t)∧w.cell? ⟨g,j*2+1,none⟩=some (.int .u64 ((mkS i).v:Int)):=by
 have h':w.ownsRow 0 53 2 (.slice (some ⟨g,0,none⟩) k c) k (cS (List.replicate k (mkS i))):=h
 obtain ⟨h1,h2⟩:=zfc (List.replicate k (mkS i)) j (mkS i) (by simp [hj])
 exact ⟨zai h' _ _ h1,zai h' _ _ h2⟩
theorem rep_at {k j:Nat} (x:Int) (h:j<k):(zae (List.replicate k x))[j]?=some (.int .u8 x):=by simp [zae,h]
theorem mkB_id {i:Nat} (h:i<256):mkB i=(i:Int):=by unfold mkB;omega
theorem u8_id (i:Nat) (h:i<256):IntKind.u8.wrap (i:Int)=(i:Int):=by unfold IntKind.wrap;simp [IntKind.bits,IntKind.signed];omega
end Go.Proofs.YtlppibigceeimaaGreatDoor
