import Derived.Test.YtlppibigceeimaaGreatDoorNumB
import Derived.Test.YtlppibigceeimaaGreatDoorPush
set_option linter.unusedSimpArgs false
set_option linter.unusedVariables false
set_option maxHeartbeats 40000000
set_option maxRecDepth 100000
namespace Go.Proofs.YtlppibigceeimaaGreatDoor.Q
open Go.RowKit
theorem enc_small (m:Nat) (h:m<128):enc m=[(m:Int)]:=by
 unfold enc
 rw [grp_small m h]
 rfl
theorem enc_step (m:Nat) (h:128≤m) (h1:m<18446744073709551616):enc m=((m%128+128:Nat):Int) :: enc (m / 128):=by
 unfold enc
 rw [grp_step m h h1]
 rfl
theorem zeb {B:Nat} {w w1 w':World} {e:TypeId} {v:Value} {n:Nat} {xs:List Value} {g:Nat} (hb:Below B w w1) (hB:B≤w1.heap.size) (hown:w1.ownsRow B e 1 v n xs) (hp:Pushed w1 w' v g):Below B w w':=by
 rcases hp with ⟨hv,hg⟩|⟨_,hg⟩
 · exact hb.grown hg hB (fun x hx=>by obtain rfl:=Option.some.inj hx;exact (hown.lt _ hv).1)
 exact hb.grown hg hB (fun x hx=>by cases hx)
def RefOut (w:World) (e:Ending) (w':World) (n:Nat) (L:List Int):Prop:=
 ∃ad c,e=.returned (.slice ad n c)∧w'.ownsRow w.heap.size 5 1 (.slice ad n c) n (zae L)∧Below w.heap.size w w'
theorem refPutUint_any (ad:Option Addr) (len cap N:Nat) (l:List Int) (w:World) (hs:Sl w ad len l) (hnone:ad=none→len=0∧cap=0) (hb:len≤140737488351232) (h1:N≤18446744073709551615):
 Calls Tryz.prog 112 #[.slice ad len cap,.int .u64 N] w fun e w'=>RefOut w e w' (len+grp N+1) (l++enc N):=by
 obtain ⟨i0,hi,hz0,hz1,hz2⟩:=info_parts ze6
 have HS:=zaa hs
 clear hs
 go_enter Tryz.func112,Tryz.ntmps112
 go_wp2_with (first
  |(at_builtin;refine zcq _ rfl _ _ 84 rfl w.heap.size 5 i0 (.int .u8 0) Tryz.underlying84 hi hz0 hz1 hz2 rfl _ 0 [] rfl (World.ownsRow_nil _ _ _ _) ad len cap l rfl HS.out hnone (by omega) (Nat.le_refl _) ?_;intro ad7 c7 w7 hown7 hgrow7))
 have hb7:=zcm hgrow7 (World.ownsRow_nil _ _ 5 1) (Nat.le_refl _)
 have HO:=zaa hown7
 clear hgrow7 hown7
 go_wp2_with fail
 go_loopw [1,5] (fun nv ov wr=>∃(m j:Nat) (pr:List Int),nv=.int .u64 m∧m≤18446744073709551615∧j+grp m=grp N∧l++enc N=pr++enc m∧wr.ownsRow w.heap.size 5 1 ov (len+j) (zae pr)∧Below w.heap.size w wr) (fun nv _ _=>(intOf nv).toNat)
 case atStart=>exact ⟨N,0,l,rfl,h1,by omega,rfl,by simpa using HO.out,hb7⟩
 case round=>
  obtain ⟨m,j,pr,rfl,hm,hj,hpr,hown,hbel⟩:=hrel
  have hgl:=grp_le N
  obtain ⟨av,cv,rfl⟩:=zal hown
  have hsz:=hbel.size
  by_cases hlt:128≤m
  · have HG:=zaa (grp_step m hlt (by omega))
    have HE:=zaa (enc_step m hlt (by omega))
    have HP:=zaa hpr
    have HW:=zaa hown
    have hmi:(128:Int)≤(m:Int):=by omega
    clear hpr hown
    go_wp2_with (first
     |(at_builtin;(refine zaw _ rfl _ _ 84 rfl 5 i0 (.int .u8 0) 1 Tryz.underlying84 hi hz0 hz1 hz2 rfl w.heap.size (.slice av (len+j) cv) (len+j) (zae pr) rfl (by exact HW.out.alloc _) ⟨wr.heap.size,0,none⟩ (.int .u8 ((m%128+128:Nat):Int)) rfl (by first|(simp;done)|(simp;omega)) rfl (by unfold maxLen;omega) (by omega) (by first|(simp;done)|(simp;omega)) ?_);intro g6 c6 w6 ho6 hp6))
    have hb6:=zeb (hbel.alloc hsz _) (by simp;omega) (HW.out.alloc _) hp6
    have HO6:=zaa ho6
    clear ho6 hp6
    go_wp2
    go_roundw
    case rel=>exact ⟨m / 128,j+1,pr++[((m%128+128:Nat):Int)],by go_num,by omega,by have:=HG.out;omega,by rw [HP.out,HE.out];simp,by have:=HO6.out;rw [za2];exact this,hb6⟩
    case measure=>simp [intOf];omega
  have HG:=zaa (grp_small m (by omega))
  have HE:=zaa (enc_small m (by omega))
  have HP:=zaa hpr
  have HW:=zaa hown
  have hmi:(m:Int)<128:=by omega
  clear hpr hown
  go_wp2_with (first
   |(at_builtin;refine zaw _ rfl _ _ 84 rfl 5 i0 (.int .u8 0) 1 Tryz.underlying84 hi hz0 hz1 hz2 rfl w.heap.size (.slice av (len+j) cv) (len+j) (zae pr) rfl (by exact HW.out.alloc _) ⟨wr.heap.size,0,none⟩ (.int .u8 (m:Int)) rfl (by first|(simp;done)|(simp;omega)) rfl (by unfold maxLen;omega) (by omega) (by first|(simp;done)|(simp;omega)) ?_;intro g6 c6 w6 ho6 hp6))
  have hb6:=zeb (hbel.alloc hsz _) (by simp;omega) (HW.out.alloc _) hp6
  have hjj:j=grp N:=by have:=HG.out;omega
  subst hjj
  go_ret
  refine ⟨_,_,rfl,?_,hb6⟩
  rw [HP.out,HE.out,za2]
  exact ho6
end Go.Proofs.YtlppibigceeimaaGreatDoor.Q
