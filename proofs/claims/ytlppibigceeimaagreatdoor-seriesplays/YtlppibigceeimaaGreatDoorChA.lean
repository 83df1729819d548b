import Derived.Test.YtlppibigceeimaaGreatDoorBitM
import Derived.Lib.TrailingZeros
set_option linter.unusedSimpArgs false
set_option linter.unusedVariables false
set_option maxHeartbeats 40000000
set_option maxRecDepth 100000
namespace Go.Proofs.YtlppibigceeimaaGreatDoor
def wr (x:Int):Int:=(x+9223372036854775808)%18446744073709551616 - 9223372036854775808
def un (x:Int):Nat:=(x%18446744073709551616).toNat
def I64 (x:Int):Prop:=-9223372036854775808≤x∧x≤9223372036854775807
theorem zbv (x:Int):I64 (wr x):=by unfold I64 wr;omega
theorem un_lt (x:Int):un x<18446744073709551616:=by unfold un;omega
structure Sm where
 t:Int
 v:Nat
structure Tr where
 t:Int
 v:Nat
 st:Int
def Tr.drift (a:Tr) (s:Sm):Int:=wr (wr (s.t - a.t) - a.st)
def Tr.flips (a:Tr) (s:Sm):Nat:=s.v ^^^ a.v
def Tr.by' (a:Tr) (d:Int) (x:Nat):Tr:=⟨wr (a.t+wr (a.st+d)),a.v ^^^ x,wr (a.st+d)⟩
def Tr.next (a:Tr) (s:Sm):Tr:=⟨s.t,s.v,wr (s.t - a.t)⟩
theorem by_next (a:Tr) (s:Sm) (ht:I64 s.t):a.by' (a.drift s) (a.flips s)=a.next s:=by
 unfold Tr.by' Tr.drift Tr.flips Tr.next
 have e1:wr (a.st+wr (wr (s.t - a.t) - a.st))=wr (s.t - a.t):=by unfold wr;omega
 have e2:wr (a.t+wr (s.t - a.t))=s.t:=by unfold I64 at ht;unfold wr;omega
 have e3:a.v ^^^ (s.v ^^^ a.v)=s.v:=by
  rw [Nat.xor_comm s.v a.v,←Nat.xor_assoc,Nat.xor_self,Nat.zero_xor]
 rw [e1,e2,e3]
def fit (d:Int) (w:Nat):Prop:=if w=0 then d=0 else -((2:Int) ^ (w - 1))≤d∧d<(2:Int) ^ (w - 1)
instance (d:Int) (w:Nat):Decidable (fit d w):=by unfold fit;infer_instance
def drB (d:Int):List Bool:=
 if d=0 then [false]
 else if -64≤d∧d≤63 then [true,false]++low (un d) 7
 else if -256≤d∧d≤255 then [true,true,false]++low (un d) 9
 else if -2048≤d∧d≤2047 then [true,true,true,false]++low (un d) 12
 else [true,true,true,true]++low (un d) 64
def blen:Nat→Nat→Nat
 |0,_=>0
 |f+1,x=>if x=0 then 0 else blen f (x / 2)+1
def ahd (x:Nat):Nat:=64 - blen 64 x
def bhd (x:Nat):Nat:=Lib.ctz 64 x
def siz (x:Nat):Nat:=64 - ahd x - bhd x
def flB (x:Nat):List Bool:=
 if x=0 then [false] else [true]++low (ahd x) 6++low (siz x - 1) 6++low (x / 2 ^ bhd x) (siz x)
def fiB (s:Sm):List Bool:=low (un s.t) 64++low s.v 64
def moB:Tr→List Sm→List Bool
 |_,[]=>[]
 |a,s :: t=>drB (a.drift s)++flB (a.flips s)++moB (a.next s) t
def tr0 (s:Sm):Tr:=⟨s.t,s.v,0⟩
def rowB:List Sm→List Bool
 |[]=>[]
 |s :: t=>fiB s++moB (tr0 s) t
def trE:Tr→List Sm→Tr
 |a,[]=>a
 |a,s :: t=>trE (a.next s) t
theorem zd1:∀(l m:List Sm) (a:Tr),moB a (l++m)=moB a l++moB (trE a l) m
 |[],m,a=>rfl
 |s :: t,m,a=>by
  show drB (a.drift s)++flB (a.flips s)++moB (a.next s) (t++m)=_
  rw [zd1 t m (a.next s)]
  simp [moB,trE]
theorem zfn:∀(l m:List Sm) (a:Tr),trE a (l++m)=trE (trE a l) m
 |[],m,a=>rfl
 |s :: t,m,a=>zfn t m (a.next s)
theorem rowB_more (s:Sm) (t:List Sm) (x:Sm):rowB (s :: t++[x])=rowB (s :: t)++(drB ((trE (tr0 s) t).drift x)++flB ((trE (tr0 s) t).flips x)):=by
 show fiB s++moB (tr0 s) (t++[x])=_
 rw [zd1]
 simp [rowB,moB]
theorem zfe:∀f x,x<2 ^ f→x<2 ^ blen f x∧(0<x→1≤blen f x∧2 ^ (blen f x - 1)≤x)∧blen f x≤f
 |0,x,h=>by
  have:x=0:=by simpa using h
  subst this
  simp [blen]
 |f+1,x,h=>by
  rw [blen]
  split
  · rename_i h0
    subst h0
    simp
  have hx:x / 2<2 ^ f:=by rw [Nat.pow_succ] at h;omega
  obtain ⟨h1,h2,h3⟩:=zfe f (x / 2) hx
  refine ⟨by rw [Nat.pow_succ];omega,fun _=>⟨by omega,?_⟩,by omega⟩
  rw [Nat.add_sub_cancel]
  by_cases h4:0<x / 2
  · obtain ⟨h5,h6⟩:=h2 h4
    have:2 ^ blen f (x / 2)=2 ^ (blen f (x / 2) - 1)*2:=by rw [←Nat.pow_succ];congr 1;omega
    omega
  have h7:x / 2=0:=by omega
  have:blen f 0=0:=by cases f <;> simp [blen]
  rw [h7,this]
  omega
def wds:List Nat:=[0,7,9,12]
theorem dr0 {d:Int} (h:fit d 0):drB d=[false]:=by simp [fit] at h;simp [drB,h]
theorem dr1 {d:Int} (h0:¬fit d 0) (h:fit d 7):drB d=[true,false]++low (un d) 7:=by
 simp [fit] at h h0;unfold drB;rw [if_neg h0,if_pos (by omega)]
theorem dr2 {d:Int} (h0:¬fit d 0) (h1:¬fit d 7) (h:fit d 9):drB d=[true,true,false]++low (un d) 9:=by
 simp [fit] at h h0 h1;unfold drB;rw [if_neg h0,if_neg (by omega),if_pos (by omega)]
theorem dr3 {d:Int} (h0:¬fit d 0) (h1:¬fit d 7) (h2:¬fit d 9) (h:fit d 12):drB d=[true,true,true,false]++low (un d) 12:=by
 simp [fit] at h h0 h1 h2;unfold drB;rw [if_neg h0,if_neg (by omega),if_neg (by omega),if_pos (by omega)]
theorem dr4 {d:Int} (h0:¬fit d 0) (h1:¬fit d 7) (h2:¬fit d 9) (h3:¬fit d 12):drB d=[true,true,true,true]++low (un d) 64:=by
 simp [fit] at h3 h0 h1 h2;unfold drB;rw [if_neg h0,if_neg (by omega),if_neg (by omega),if_neg (by omega)]
def vl:List Bool→Nat
 |[]=>0
 |b :: B=>2 ^ B.length*b.toNat+vl B
theorem vl_lt:∀B,vl B<2 ^ B.length
 |[]=>by simp [vl]
 |b :: B=>by
  have:=vl_lt B
  rw [vl,List.length_cons,Nat.pow_succ]
  cases b <;> simp <;> omega
theorem low_succ (v k:Nat):low v (k+1)=v.testBit k :: low v k:=by
 refine zdr (by simp [zaq]) (fun i hi=>?_)
 rw [zaq] at hi
 rw [zcv]
 cases i with
 |zero=>simp
 |succ j=>
  rw [List.getD_cons_succ,zcv]
  simp only [decide_eq_true (show j+1<k+1 by omega),decide_eq_true (show j<k by omega),Bool.true_and]
  congr 1
  omega
theorem low_congr {u v k:Nat} (h:∀i,i<k→u.testBit i=v.testBit i):low u k=low v k:=by
 refine zdr (by simp [zaq]) (fun i hi=>?_)
 rw [zaq] at hi
 rw [zcv,zcv,h _ (by omega)]
theorem low_mod (v k:Nat):low (v%2 ^ k) k=low v k:=low_congr (fun i hi=>by rw [Nat.testBit_mod_two_pow];simp [hi])
theorem low_zero (v:Nat):low v 0=[]:=by simp [low]
theorem vl_low (v:Nat):∀k,vl (low v k)=v%2 ^ k
 |0=>by rw [low_zero];simp [vl,Nat.mod_one]
 |k+1=>by
  rw [low_succ,vl,zaq,vl_low v k]
  have h1:=@Nat.mod_mul (2 ^ k) 2 v
  rw [Nat.toNat_testBit,Nat.pow_succ,h1]
  omega
theorem low_vl:∀B,low (vl B) B.length=B
 |[]=>by simp [low]
 |b :: B=>by
  have hl:=vl_lt B
  rw [List.length_cons,low_succ,vl]
  have h1:(2 ^ B.length*b.toNat+vl B).testBit B.length=b:=by
   rw [Nat.testBit_two_pow_mul_add _ hl]
   cases b <;> simp
  rw [h1]
  congr 1
  rw [show low (2 ^ B.length*b.toNat+vl B) B.length=low (vl B) B.length from low_congr (fun i hi=>by rw [Nat.testBit_two_pow_mul_add _ hl];simp [hi])]
  exact low_vl B
theorem zch (v k:Nat) (c:List Bool):(low v k++c).take k=low v k:=by
 rw [List.take_append_of_le_length (by rw [zaq];exact Nat.le_refl _),List.take_of_length_le (by rw [zaq];exact Nat.le_refl _)]
theorem zb8 (v k:Nat) (c:List Bool):(low v k++c).drop k=c:=by
 rw [List.drop_append_of_le_length (by rw [zaq];exact Nat.le_refl _),List.drop_of_length_le (by rw [zaq];exact Nat.le_refl _)];rfl
theorem zdy {B:List Bool} {k:Nat} (h:k≤B.length):low (vl (B.take k)) k=B.take k:=by
 have:=low_vl (B.take k)
 rwa [List.length_take,Nat.min_eq_left h] at this
theorem zct {B:List Bool} {k:Nat}:vl (B.take k)<2 ^ k:=by
 have:=vl_lt (B.take k)
 exact Nat.lt_of_lt_of_le this (Nat.pow_le_pow_right (by omega) (by rw [List.length_take];omega))
def sg (v w:Nat):Int:=wr (((v*2 ^ (64 - w))%18446744073709551616:Nat):Int) / (2:Int) ^ (64 - w)
def rdW (w s:Nat) (c:List Bool):Option (Int×List Bool):=
 if w≤c.length then (if fit (sg (vl (c.take w)) w) s then none else some (sg (vl (c.take w)) w,c.drop w)) else none
def rdD:List Bool→Option (Int×List Bool)
 |[]=>none
 |false :: c=>some (0,c)
 |true :: []=>none
 |true :: false :: c=>rdW 7 0 c
 |true :: true :: []=>none
 |true :: true :: false :: c=>rdW 9 7 c
 |true :: true :: true :: []=>none
 |true :: true :: true :: false :: c=>rdW 12 9 c
 |true :: true :: true :: true :: c=>rdW 64 12 c
theorem sg_un {d:Int} {w:Nat} (hd:I64 d) (hw:w=7∨w=9∨w=12∨w=64) (h:w=64∨fit d w):sg (un d%2 ^ w) w=d:=by
 unfold I64 at hd
 rcases hw with rfl|rfl|rfl|rfl
 · have h:=h.resolve_left (by omega);simp [fit] at h;simp [sg,un,wr];omega
 · have h:=h.resolve_left (by omega);simp [fit] at h;simp [sg,un,wr];omega
 · have h:=h.resolve_left (by omega);simp [fit] at h;simp [sg,un,wr];omega
 simp [sg,un,wr];omega
theorem un_sg {v w:Nat} (hv:v<2 ^ w) (hw:w=7∨w=9∨w=12∨w=64):un (sg v w)%2 ^ w=v∧I64 (sg v w)∧(w=64∨fit (sg v w) w):=by
 unfold I64
 rcases hw with rfl|rfl|rfl|rfl
 all_goals simp [sg,un,wr,fit] at*;omega
theorem zf7 {d:Int} {w s:Nat} (hd:I64 d) (hw:w=7∨w=9∨w=12∨w=64) (h:w=64∨fit d w) (hs:¬fit d s) (c:List Bool):rdW w s (low (un d) w++c)=some (d,c):=by
 unfold rdW
 rw [if_pos (by rw [List.length_append,zaq];omega),zch,zb8,vl_low,sg_un hd hw h,if_neg hs]
theorem zek {w s:Nat} {c c':List Bool} {d:Int} (hw:w=7∨w=9∨w=12∨w=64) (h:rdW w s c=some (d,c')):c=low (un d) w++c'∧I64 d∧(w=64∨fit d w)∧¬fit d s:=by
 unfold rdW at h
 split at h
 · rename_i hl
   split at h
   · exact absurd h (by simp)
   rename_i hf
   injection h with h
   injection h with h1 h2
   obtain ⟨k1,k2,k3⟩:=un_sg (zct (B:=c) (k:=w)) hw
   rw [h1] at k1 k2 k3 hf
   refine ⟨?_,k2,k3,hf⟩
   rw [←low_mod,k1,zdy hl,←h2,List.take_append_drop]
 exact absurd h (by simp)
theorem rdD_drB {d:Int} (hd:I64 d) (c:List Bool):rdD (drB d++c)=some (d,c):=by
 by_cases h0:fit d 0
 · rw [dr0 h0]
   have:d=0:=by simpa [fit] using h0
   subst this
   rfl
 by_cases h1:fit d 7
 · rw [dr1 h0 h1];exact zf7 hd (by omega) (.inr h1) h0 c
 by_cases h2:fit d 9
 · rw [dr2 h0 h1 h2];exact zf7 hd (by omega) (.inr h2) h1 c
 by_cases h3:fit d 12
 · rw [dr3 h0 h1 h2 h3];exact zf7 hd (by omega) (.inr h3) h2 c
 rw [dr4 h0 h1 h2 h3];exact zf7 hd (by omega) (.inl rfl) h3 c
theorem fit_mono {d:Int}:(fit d 0→fit d 7)∧(fit d 7→fit d 9)∧(fit d 9→fit d 12):=by
 simp [fit];omega
theorem rdD_some {B c:List Bool} {d:Int} (h:rdD B=some (d,c)):B=drB d++c∧I64 d:=by
 have fm:=fit_mono (d:=d)
 unfold rdD at h
 split at h
 · exact absurd h (by simp)
 · injection h with h
   injection h with h1 h2
   subst h1 h2
   exact ⟨by simp [drB],by unfold I64;omega⟩
 · exact absurd h (by simp)
 · obtain ⟨h1,h2,h3,h4⟩:=zek (by omega) h
   have h3:=h3.resolve_left (by omega)
   rw [dr1 h4 h3,h1]
   exact ⟨rfl,h2⟩
 · exact absurd h (by simp)
 · obtain ⟨h1,h2,h3,h4⟩:=zek (by omega) h
   have h3:=h3.resolve_left (by omega)
   rw [dr2 (mt fm.1 h4) h4 h3,h1]
   exact ⟨rfl,h2⟩
 · exact absurd h (by simp)
 · obtain ⟨h1,h2,h3,h4⟩:=zek (by omega) h
   have h3:=h3.resolve_left (by omega)
   rw [dr3 (mt fm.1 (mt fm.2.1 h4)) (mt fm.2.1 h4) h4 h3,h1]
   exact ⟨rfl,h2⟩
 obtain ⟨h1,h2,h3,h4⟩:=zek (by omega) h
 rw [dr4 (mt fm.1 (mt fm.2.1 (mt fm.2.2 h4))) (mt fm.2.1 (mt fm.2.2 h4)) (mt fm.2.2 h4) h4,h1]
 exact ⟨rfl,h2⟩
def rdX:List Bool→Option (Nat×List Bool)
 |[]=>none
 |false :: c=>some (0,c)
 |true :: c=>
  if 12≤c.length then
   (let a:=vl (c.take 6)
    let z:=vl ((c.drop 6).take 6)+1
    let c2:=(c.drop 6).drop 6
    if a+z≤64∧z≤c2.length then
     (let x:=vl (c2.take z)*2 ^ (64 - a - z)
      if ahd x=a∧siz x=z then some (x,c2.drop z) else none)
    else none)
  else none
theorem zcu {x:Nat} (hx:x<18446744073709551616) (hx0:0<x):ahd x+bhd x≤63∧ahd x≤63∧siz x≤64∧1≤siz x∧ahd x+bhd x+siz x=64:=by
 obtain ⟨h1,h2,h3⟩:=zfe 64 x (by omega)
 obtain ⟨h4,h5⟩:=h2 hx0
 obtain ⟨m,hm,hc⟩:=Lib.ctzFrom_spec 64 x hx0 (by omega)
 have hb:bhd x=Lib.ctzFrom 64 x:=by unfold bhd Lib.ctz;first|rfl|(rw [if_neg (by omega)])|simp
 have hlt:Lib.ctzFrom 64 x<blen 64 x:=by
  apply Nat.lt_of_not_le
  intro hle
  have:2 ^ blen 64 x≤2 ^ Lib.ctzFrom 64 x:=Nat.pow_le_pow_right (by omega) hle
  have h6:2 ^ Lib.ctzFrom 64 x≤x:=by
   calc 2 ^ Lib.ctzFrom 64 x=2 ^ Lib.ctzFrom 64 x*1:=by omega
    _≤2 ^ Lib.ctzFrom 64 x*(2*m+1):=Nat.mul_le_mul_left _ (by omega)
    _=x:=hm.symm
  omega
 unfold siz
 rw [hb]
 unfold ahd
 omega
theorem bhd_spec {x:Nat} (hx:x<18446744073709551616) (hx0:0<x):∃m,x=2 ^ bhd x*m:=by
 obtain ⟨m,hm,hc⟩:=Lib.ctzFrom_spec 64 x (by omega) (by omega)
 have hb:bhd x=Lib.ctzFrom 64 x:=by unfold bhd Lib.ctz;first|rfl|(rw [if_neg (by omega)])|simp
 rw [hb]
 exact ⟨_,hm⟩
theorem ahd_zero:ahd 0=64:=by decide
theorem x_lt {x:Nat} (hx:x<18446744073709551616):x<2 ^ (64 - ahd x):=by
 obtain ⟨h1,h2,h3⟩:=zfe 64 x (by omega)
 unfold ahd
 rw [show 64 - (64 - blen 64 x)=blen 64 x by omega]
 exact h1
theorem zed {v k:Nat} (h:v<2 ^ k):vl (low v k)=v:=by rw [vl_low,Nat.mod_eq_of_lt h]
theorem rdX_flB {x:Nat} (hx:x<18446744073709551616) (c:List Bool):rdX (flB x++c)=some (x,c):=by
 unfold flB
 split
 · rename_i h0;subst h0;rfl
 rename_i h0
 have h0':0<x:=by omega
 obtain ⟨s1,s2,s3,s4,s5⟩:=zcu hx h0'
 obtain ⟨m,hm⟩:=bhd_spec hx h0'
 have hp:0<2 ^ bhd x:=Nat.two_pow_pos _
 have hd:x / 2 ^ bhd x*2 ^ bhd x=x:=by
  have:x / 2 ^ bhd x=m:=by
   have:=Nat.mul_div_cancel_left m hp
   rwa [←hm] at this
  rw [this,Nat.mul_comm];exact hm.symm
 have hq:x / 2 ^ bhd x<2 ^ siz x:=by
  have h2:=x_lt hx
  rw [show 64 - ahd x=siz x+bhd x by omega,Nat.pow_add] at h2
  exact (Nat.div_lt_iff_lt_mul hp).2 h2
 have e:[true]++low (ahd x) 6++low (siz x - 1) 6++low (x / 2 ^ bhd x) (siz x)++c=true :: (low (ahd x) 6++(low (siz x - 1) 6++(low (x / 2 ^ bhd x) (siz x)++c))):=by simp
 rw [e,rdX]
 have hz:siz x - 1+1=siz x:=by omega
 rw [if_pos (by simp [zaq];omega)]
 simp only [zch,zb8]
 rw [zed (v:=ahd x) (by omega),zed (v:=siz x - 1) (by omega),hz]
 simp only [zch,zb8]
 rw [if_pos ⟨by omega,by simp [zaq]⟩,zed hq,show 64 - ahd x - siz x=bhd x by omega,hd,if_pos ⟨rfl,rfl⟩]
theorem rdX_some {B c:List Bool} {x:Nat} (h:rdX B=some (x,c)):B=flB x++c∧x<18446744073709551616:=by
 unfold rdX at h
 split at h
 · exact absurd h (by simp)
 · injection h with h
   injection h with h1 h2
   subst h1 h2
   exact ⟨by simp [flB],by omega⟩
 rename_i c0
 split at h
 · rename_i h12
   have a6:=zct (B:=c0) (k:=6)
   have z6:=zct (B:=c0.drop 6) (k:=6)
   have ea:=zdy (B:=c0) (k:=6) (by omega)
   have ez:=zdy (B:=c0.drop 6) (k:=6) (by rw [List.length_drop];omega)
   have hc0:c0=c0.take 6++((c0.drop 6).take 6++(c0.drop 6).drop 6):=by rw [List.take_append_drop,List.take_append_drop]
   simp only at h
   generalize hA:vl (c0.take 6)=a at*
   generalize hZ:vl ((c0.drop 6).take 6)=z at*
   generalize hC:(c0.drop 6).drop 6=c2 at*
   split at h
   · rename_i hg
     split at h
     · rename_i hs
       injection h with h
       injection h with h1 h2
       have ey:=zdy (B:=c2) (k:=z+1) hg.2
       have hy:=zct (B:=c2) (k:=z+1)
       generalize hY:vl (c2.take (z+1))=y at*
       have hxlt:x<18446744073709551616:=by
        rw [←h1]
        have h3:y*2 ^ (64 - a - (z+1))<2 ^ (z+1)*2 ^ (64 - a - (z+1)):=Nat.mul_lt_mul_of_pos_right hy (Nat.two_pow_pos _)
        rw [←Nat.pow_add] at h3
        have h4:2 ^ (z+1+(64 - a - (z+1)))≤2 ^ 64:=Nat.pow_le_pow_right (by omega) (by omega)
        omega
       rw [h1] at hs
       have hx0:0<x:=by
        apply Nat.pos_of_ne_zero
        intro e
        rw [e,ahd_zero] at hs
        omega
       obtain ⟨s1,s2,s3,s4,s5⟩:=zcu hxlt hx0
       have hb:64 - a - (z+1)=bhd x:=by omega
       have hdiv:x / 2 ^ bhd x=y:=by
        have h3:=Nat.mul_div_cancel y (Nat.two_pow_pos (bhd x))
        rwa [←hb,h1,hb] at h3
       refine ⟨?_,hxlt⟩
       unfold flB
       rw [if_neg (by omega),hdiv,hs.1,hs.2,Nat.add_sub_cancel,ea,ez,ey,←h2]
       have e2:c2.take (z+1)++c2.drop (z+1)=c2:=List.take_append_drop _ _
       simp only [List.append_assoc,e2]
       rw [←hc0]
       rfl
     exact absurd h (by simp)
   exact absurd h (by simp)
 exact absurd h (by simp)
def rdS:Nat→Tr→List Bool→Option (List Sm×List Bool)
 |0,_,B=>some ([],B)
 |k+1,a,B=>
  match rdD B with
  |none=>none
  |some (d,B1)=>
   match rdX B1 with
   |none=>none
   |some (x,B2)=>
    match rdS k (a.by' d x) B2 with
    |none=>none
    |some (l,B3)=>some (⟨(a.by' d x).t,(a.by' d x).v⟩ :: l,B3)
structure OkS (s:Sm):Prop where
 t:I64 s.t
 v:s.v<18446744073709551616
structure Ok (a:Tr):Prop where
 t:I64 a.t
 v:a.v<18446744073709551616
 s:I64 a.st
theorem xor_lt {a b:Nat} (ha:a<18446744073709551616) (hb:b<18446744073709551616):a ^^^ b<18446744073709551616:=
 Nat.xor_lt_two_pow (n:=64) (by simpa using ha) (by simpa using hb)
theorem by_ok {a:Tr} {d:Int} {x:Nat} (ha:Ok a) (hx:x<18446744073709551616):Ok (a.by' d x):=⟨zbv _,xor_lt ha.v hx,zbv _⟩
theorem next_ok {a:Tr} {s:Sm} (hs:OkS s):Ok (a.next s):=⟨hs.t,hs.v,zbv _⟩
theorem by_drift {a:Tr} {d:Int} {x:Nat} (ha:Ok a) (hd:I64 d):a.drift ⟨(a.by' d x).t,(a.by' d x).v⟩=d∧a.flips ⟨(a.by' d x).t,(a.by' d x).v⟩=x∧a.next ⟨(a.by' d x).t,(a.by' d x).v⟩=a.by' d x:=by
 have h1:=ha.t
 have h2:=ha.s
 unfold I64 at h1 h2 hd
 have e1:wr (wr (a.t+wr (a.st+d)) - a.t)=wr (a.st+d):=by unfold wr;omega
 refine ⟨?_,?_,?_⟩
 · show wr (wr (wr (a.t+wr (a.st+d)) - a.t) - a.st)=d
   rw [e1]
   unfold wr
   omega
 · show (a.v ^^^ x) ^^^ a.v=x
   rw [Nat.xor_comm a.v x,Nat.xor_assoc,Nat.xor_self,Nat.xor_zero]
 show (⟨_,_,wr (wr (a.t+wr (a.st+d)) - a.t)⟩:Tr)=_
 rw [e1]
 rfl
theorem zf9:∀(k:Nat) (a:Tr) (B c:List Bool) (l:List Sm),Ok a→rdS k a B=some (l,c)→l.length=k∧B=moB a l++c∧∀s∈l,OkS s
 |0,a,B,c,l,ha,h=>by
  injection h with h
  injection h with h1 h2
  subst h1 h2
  exact ⟨rfl,rfl,by simp⟩
 |k+1,a,B,c,l,ha,h=>by
  unfold rdS at h
  split at h
  · exact absurd h (by simp)
  rename_i d B1 h1
  split at h
  · exact absurd h (by simp)
  rename_i x B2 h2
  split at h
  · exact absurd h (by simp)
  rename_i l' B3 h3
  injection h with h
  injection h with h4 h5
  subst h4 h5
  obtain ⟨e1,i1⟩:=rdD_some h1
  obtain ⟨e2,i2⟩:=rdX_some h2
  have hb:=by_ok (d:=d) ha i2
  obtain ⟨j1,j2,j3⟩:=zf9 k _ _ _ _ hb h3
  obtain ⟨m1,m2,m3⟩:=by_drift (x:=x) ha i1
  refine ⟨by simp [j1],?_,?_⟩
  · rw [moB,m1,m2,m3,e1,e2,j2]
    simp
  intro s hs
  rcases List.mem_cons.1 hs with rfl|hs
  · exact ⟨hb.t,hb.v⟩
  exact j3 s hs
theorem rdS_moB:∀(l:List Sm) (a:Tr) (c:List Bool),Ok a→(∀s∈l,OkS s)→rdS l.length a (moB a l++c)=some (l,c)
 |[],a,c,_,_=>rfl
 |s :: l,a,c,ha,h=>by
  have hs:=h s (by simp)
  have hd:I64 (a.drift s):=zbv _
  have hx:a.flips s<18446744073709551616:=xor_lt hs.v ha.v
  rw [List.length_cons,rdS,moB,List.append_assoc,List.append_assoc,rdD_drB hd]
  simp only
  rw [rdX_flB hx]
  simp only
  rw [by_next a s hs.t,rdS_moB l (a.next s) c (next_ok hs) (fun y hy=>h y (by simp [hy]))]
  rfl
end Go.Proofs.YtlppibigceeimaaGreatDoor
