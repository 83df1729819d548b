import Derived.Test.YtlppibigceeimaaGreatDoorChA
import Derived.Test.YtlppibigceeimaaGreatDoorMath
set_option linter.unusedSimpArgs false
set_option linter.unusedVariables false
set_option maxHeartbeats 40000000
set_option maxRecDepth 100000
namespace Go.Proofs.YtlppibigceeimaaGreatDoor.Q
open Go.RowKit
theorem grpF_ge:∀f n,grpF f n=0∨128 ^ grpF f n≤n
 |0,n=>.inl rfl
 |f+1,n=>by
  rw [grpF]
  split
  · exact .inl rfl
  right
  rcases grpF_ge f (n / 128) with h|h
  · rw [h];simp;omega
  rw [Nat.pow_succ];omega
theorem grp_ge (n:Nat):grp n=0∨128 ^ grp n≤n:=grpF_ge 9 n
theorem zfw:∀(k n i acc:Nat) (b:List Int),i+k≤9→(i+k=9→n / 128 ^ k≤1)→(n / 128 ^ k≠0∨i+k=0)→n / 128 ^ k<128→zbi (encK k n++b) i acc=(acc+n*128 ^ i,i+k+1)
 |0,n,i,acc,b,h1,h2,h3,h4=>by
  simp only [Nat.pow_zero,Nat.div_one,Nat.add_zero] at h2 h3 h4
  show zbi ((n:Int) :: b) i acc=_
  rw [zbi,if_neg (by omega),if_neg (by omega),if_neg (by omega),if_neg (by omega),Int.toNat_natCast,Nat.mod_eq_of_lt h4]
 |k+1,n,i,acc,b,h1,h2,h3,h4=>by
  have e:n / 128 ^ (k+1)=n / 128 / 128 ^ k:=by rw [Nat.pow_succ,Nat.mul_comm,Nat.div_div_eq_div_mul]
  rw [e] at h2 h3 h4
  show zbi (((n%128+128:Nat):Int) :: (encK k (n / 128)++b)) i acc=_
  rw [zbi,if_neg (by omega),if_neg (by omega),if_pos (by omega),zfw k (n / 128) (i+1) _ b (by omega) (by intro h;exact h2 (by omega)) (by omega) h4,Int.toNat_natCast]
  have e2:(n%128+128)%128=n%128:=by omega
  have e3:n%128*128 ^ i+n / 128*128 ^ (i+1)=n*128 ^ i:=by
   rw [Nat.pow_succ,Nat.mul_comm (128 ^ i) 128,←Nat.mul_assoc,←Nat.add_mul]
   congr 1
   omega
  rw [e2,Nat.add_assoc,e3]
  congr 1
  omega
theorem dec_enc (n:Nat) (h:n<18446744073709551616) (b:List Int):dec (enc n++b)=(n,grp n+1):=by
 have hg:=grp_le n
 have h4:=last_lt n h
 have e:=zfw (grp n) n 0 0 b (by omega) (by
  intro h9
  have:grp n=9:=by omega
  rw [this]
  omega) (by
  rcases grp_ge n with h0|h0
  · right;omega
  left
  have:=Nat.div_pos h0 (Nat.pow_pos (by omega))
  omega) h4
 unfold dec enc
 rw [e]
 simp
theorem zfx:∀(b:List Int) (i acc x m:Nat),Byte b→zbi b i acc=(x,m)→m≠0→
 ∃k y,m=i+k+1∧x=acc+y*128 ^ i∧b.take (k+1)=encK k y∧(y / 128 ^ k≠0∨i+k=0)∧y / 128 ^ k<128∧i+k≤9
 |[],i,acc,x,m,hb,h,hm=>by
  simp only [zbi,Prod.mk.injEq] at h
  omega
 |c :: t,i,acc,x,m,hb,h,hm=>by
  have hc:=hb c (by simp)
  have ht:Byte t:=fun x hx=>hb x (by simp [hx])
  rw [zbi] at h
  by_cases h1:10≤i
  · rw [if_pos h1] at h;simp only [Prod.mk.injEq] at h;omega
  rw [if_neg h1] at h
  by_cases h2:i=9∧1<c
  · rw [if_pos h2] at h;simp only [Prod.mk.injEq] at h;omega
  rw [if_neg h2] at h
  by_cases h3:128≤c
  · rw [if_pos h3] at h
    obtain ⟨k,y,e1,e2,e3,e4,e5,e6⟩:=zfx t (i+1) _ x m ht h hm
    have hd:(y*128+c.toNat%128) / 128=y:=by omega
    have hq:(y*128+c.toNat%128) / 128 ^ (k+1)=y / 128 ^ k:=by rw [Nat.pow_succ,Nat.mul_comm (128 ^ k),←Nat.div_div_eq_div_mul,hd]
    refine ⟨k+1,y*128+c.toNat%128,by omega,?_,?_,?_,?_,by omega⟩
    · rw [e2,Nat.pow_succ,Nat.add_mul,Nat.mul_assoc y 128,Nat.mul_comm 128 (128 ^ i)]
      omega
    · rw [List.take_succ_cons,e3,encK,hd]
      congr 1
      omega
    · rw [hq];omega
    rw [hq];exact e5
  rw [if_neg h3] at h
  by_cases h4:c=0∧0<i
  · rw [if_pos h4] at h;simp only [Prod.mk.injEq] at h;omega
  rw [if_neg h4] at h
  simp only [Prod.mk.injEq] at h
  refine ⟨0,c.toNat,by omega,?_,?_,?_,?_,by omega⟩
  · rw [←h.1,Nat.mod_eq_of_lt (by omega)]
  · simp [encK];omega
  · simp;omega
  simp;omega
theorem enc_dec (b:List Int) (hb:Byte b) (h:(dec b).2≠0):enc (dec b).1=b.take (dec b).2∧(dec b).2=grp (dec b).1+1:=by
 obtain ⟨k,y,e1,e2,e3,e4,e5,e6⟩:=zfx b 0 0 (dec b).1 (dec b).2 hb rfl h
 simp only [Nat.pow_zero,Nat.mul_one,Nat.zero_add] at e1 e2 e4 e6
 rw [e2]
 have hp:0<128 ^ k:=Nat.pow_pos (by omega)
 have hg:grp y=k:=by
  refine grpF_is 9 k y e6 ?_ ?_
  · rcases e4 with h0|h0
    · right
      rcases Nat.lt_or_ge y (128 ^ k) with h1|h1
      · rw [Nat.div_eq_of_lt h1] at h0;omega
      exact h1
    exact .inl h0
  rw [Nat.pow_succ]
  have:=(Nat.div_lt_iff_lt_mul hp).1 e5
  omega
 refine ⟨?_,by omega⟩
 rw [enc,hg,e1,e3]
theorem decAt_nil:∀(b:List Int) (i acc:Nat),(zbi b i acc).2=0→(zbi b i acc).1=0
 |[],i,acc,h=>by simp [zbi]
 |c :: t,i,acc,h=>by
  rw [zbi] at h ⊢
  split
  · rfl
  split
  · rfl
  split
  · rename_i h1 h2 h3
    rw [if_neg h1,if_neg h2,if_pos h3] at h
    exact decAt_nil t _ _ h
  split
  · rfl
  rename_i h1 h2 h3 h4
  rw [if_neg h1,if_neg h2,if_neg h3,if_neg h4] at h
  simp at h
theorem decAt_le:∀(b:List Int) (i acc:Nat),(zbi b i acc).2≤i+b.length
 |[],i,acc=>by simp [zbi]
 |c :: t,i,acc=>by
  rw [zbi]
  have:=decAt_le t (i+1) (acc+c.toNat%128*128 ^ i)
  simp only [List.length_cons]
  repeat' split
  all_goals first|simp;done|(simp;omega)|omega
theorem dec_le (b:List Int):(dec b).2≤b.length:=by have:=decAt_le b 0 0;unfold dec;omega
end Go.Proofs.YtlppibigceeimaaGreatDoor.Q
namespace Go.Proofs.YtlppibigceeimaaGreatDoor
open Go.RowKit
def pk (L:List Bool):List Int:=(List.range ((L.length+7) / 8)).map (fun q=>((vl ((List.range 8).map (fun i=>L.getD (8*q+i) false)):Nat):Int))
def ub (R:List Int):List Bool:=(List.range (8*R.length)).map (bt R)
theorem zc9 (L:List Bool):(pk L).length=(L.length+7) / 8:=by simp [pk]
theorem zd7 (R:List Int):(ub R).length=8*R.length:=by simp [ub]
theorem ub_at (R:List Int) (i:Nat):(ub R).getD i false=bt R i:=by
 by_cases h:i<8*R.length
 · simp [ub,List.getD,h]
 rw [zfd R i (by omega)]
 simp [ub,List.getD,h]
theorem zgb (L:List Bool):Byte (pk L):=by
 intro x hx
 simp only [pk,List.mem_map] at hx
 obtain ⟨q,_,rfl⟩:=hx
 have:=vl_lt ((List.range 8).map (fun i=>L.getD (8*q+i) false))
 rw [List.length_map,List.length_range] at this
 omega
theorem vl_bit (X:List Bool) (i:Nat) (h:i<X.length):(vl X).testBit (X.length - 1 - i)=X.getD i false:=by
 have e:=zcv (vl X) X.length i
 rw [low_vl,decide_eq_true h,Bool.true_and] at e
 exact e.symm
theorem pk_rep (L:List Bool):Rep (pk L) L:=by
 intro i
 by_cases h:i / 8<(L.length+7) / 8
 · have h1:(pk L).getD (i / 8) 0=((vl ((List.range 8).map (fun j=>L.getD (8*(i / 8)+j) false)):Nat):Int):=by
    simp [pk,List.getD,h]
   unfold bt
   rw [h1,Int.toNat_natCast]
   have h2:=vl_bit ((List.range 8).map (fun j=>L.getD (8*(i / 8)+j) false)) (i%8) (by simp;omega)
   simp only [List.length_map,List.length_range] at h2
   rw [show 7 - i%8=8 - 1 - i%8 by omega,h2]
   have h8:i%8<8:=by omega
   have h9:8*(i / 8)+i%8=i:=by omega
   simp [List.getD,h8,h9]
 rw [zfd (pk L) i (by rw [zc9];omega)]
 simp [List.getD,show ¬i<L.length by omega]
theorem ub_rep {R:List Int} {L:List Bool} (h:Rep R L) (hl:L.length≤8*R.length):ub R=L++List.replicate (8*R.length - L.length) false:=by
 refine zdr (by rw [zd7];simp;omega) (fun i hi=>?_)
 rw [ub_at,h i,zcn]
 split
 · rfl
 rename_i hi2
 have e1:L.getD i false=false:=by simp [List.getD,hi2]
 rw [e1]
 simp only [List.getD,List.getElem?_replicate]
 split <;> rfl
theorem vl_rep:∀k,vl (List.replicate k false)=0
 |0=>rfl
 |k+1=>by rw [List.replicate_succ,vl,vl_rep k];rfl
theorem vl_none:∀B,vl B=0→B=List.replicate B.length false
 |[],_=>rfl
 |b :: B,h=>by
  rw [vl] at h
  have hp:=Nat.two_pow_pos B.length
  cases b with
  |true=>simp at h
  |false=>
   have:=vl_none B (by simpa using h)
   rw [List.length_cons,List.replicate_succ,←this]
def encC (l:List Sm):List Int:=if l=[] then [] else Q.enc l.length++pk (rowB l)
def fiR (B:List Bool):Sm:=⟨wr (vl (B.take 64):Nat),vl ((B.drop 64).take 64)⟩
def rdB (n:Nat) (B:List Bool):Option (List Sm):=
 if B.length<128 then none else
 match rdS (n - 1) (tr0 (fiR B)) ((B.drop 64).drop 64) with
 |none=>none
 |some (l,B3)=>if B3.length<8∧vl B3=0 then some (fiR B :: l) else none
def rdR (b:List Int):Option (List Sm):=
 if b=[] then some [] else if (Q.dec b).1=0 then none else rdB (Q.dec b).1 (ub (b.drop (Q.dec b).2))
theorem wr_un {t:Int} (h:I64 t):wr (un t:Nat)=t:=by unfold I64 at h;unfold wr un;omega
theorem un_wr {v:Nat} (h:v<18446744073709551616):un (wr (v:Nat))=v:=by unfold wr un;omega
theorem tr0_ok {s:Sm} (h:OkS s):Ok (tr0 s):=⟨h.t,h.v,by show I64 0;unfold I64;omega⟩
theorem rdB_row {s:Sm} {l:List Sm} (hs:∀x∈s :: l,OkS x) (k:Nat) (hk:k<8):rdB (s :: l).length (rowB (s :: l)++List.replicate k false)=some (s :: l):=by
 have h0:=hs s (by simp)
 have e:rowB (s :: l)++List.replicate k false=low (un s.t) 64++(low s.v 64++(moB (tr0 s) l++List.replicate k false)):=by simp [rowB,fiB]
 rw [e]
 unfold rdB
 rw [if_neg (by simp [zaq];omega)]
 have hf:fiR (low (un s.t) 64++(low s.v 64++(moB (tr0 s) l++List.replicate k false)))=s:=by
  unfold fiR
  rw [zch,zb8,zch,zed (by have:=un_lt s.t;omega),zed (by have:=h0.v;omega),wr_un h0.t]
 rw [hf,zb8,zb8,List.length_cons,Nat.add_sub_cancel,rdS_moB l (tr0 s) _ (tr0_ok h0) (fun x hx=>hs x (by simp [hx]))]
 simp only [List.length_replicate]
 rw [if_pos ⟨hk,vl_rep k⟩]
theorem rd_enc {l:List Sm} (hs:∀x∈l,OkS x) (hl:l.length<18446744073709551616):rdR (encC l)=some l:=by
 unfold encC
 split
 · rename_i h;subst h;rfl
 rename_i h
 unfold rdR
 have hn:¬Q.enc l.length++pk (rowB l)=[]:=by
  intro e
  have:=congrArg List.length e
  rw [List.length_append,Q.enc_length] at this
  simp at this
 have hd:(Q.enc l.length++pk (rowB l)).drop (Q.grp l.length+1)=pk (rowB l):=by
  rw [←Q.enc_length,List.drop_left]
 have hp:l.length≠0:=by simpa using h
 rw [if_neg hn,Q.dec_enc _ hl]
 simp only
 rw [if_neg hp,hd,ub_rep (pk_rep _) (by rw [zc9];omega)]
 cases l with
 |nil=>exact absurd rfl h
 |cons s t=>exact rdB_row hs _ (by rw [zc9];omega)
theorem fiR_fiB {B:List Bool} (h:¬B.length<128):B=fiB (fiR B)++(B.drop 64).drop 64∧OkS (fiR B):=by
 have h1:=zct (B:=B) (k:=64)
 have h2:=zct (B:=B.drop 64) (k:=64)
 refine ⟨?_,⟨zbv _,by simpa [fiR] using h2⟩⟩
 unfold fiB fiR
 rw [un_wr (by omega),zdy (by omega),zdy (by rw [List.length_drop];omega),List.append_assoc,List.take_append_drop,List.take_append_drop]
theorem enc_rd {b:List Int} {l:List Sm} (hb:Byte b) (h:rdR b=some l):encC l=b∧(∀x∈l,OkS x)∧(l=[]→b=[]):=by
 unfold rdR at h
 split at h
 · rename_i h0
   injection h with h
   subst h h0
   exact ⟨rfl,by simp,fun _=>rfl⟩
 rename_i h0
 split at h
 · exact absurd h (by simp)
 rename_i h1
 have h2:(Q.dec b).2≠0:=fun e=>h1 (Q.decAt_nil b 0 0 e)
 obtain ⟨d1,d2⟩:=Q.enc_dec b hb h2
 have hle:=Q.dec_le b
 generalize (Q.dec b).1=n at*
 generalize (Q.dec b).2=k at*
 unfold rdB at h
 split at h
 · exact absurd h (by simp)
 rename_i h3
 obtain ⟨f1,f2⟩:=fiR_fiB h3
 split at h
 · exact absurd h (by simp)
 rename_i l' B3 h4
 split at h
 · rename_i h5
   injection h with h
   subst h
   obtain ⟨g1,g2,g3⟩:=zf9 _ _ _ _ _ (tr0_ok f2) h4
   generalize fiR (ub (b.drop k))=s at*
   have hB3:=vl_none B3 h5.2
   rw [g2] at f1
   have hrow:ub (b.drop k)=rowB (s :: l')++List.replicate B3.length false:=by rw [←hB3,f1];simp [rowB]
   have hlen:=congrArg List.length hrow
   rw [zd7] at hlen
   simp only [List.length_append,List.length_replicate] at hlen
   have hrep:Rep (b.drop k) (rowB (s :: l')):=by
    intro i
    rw [←ub_at,hrow,zcn]
    split
    · rfl
    rename_i hi
    have e1:(rowB (s :: l')).getD i false=false:=by simp [List.getD,hi]
    rw [e1]
    simp only [List.getD,List.getElem?_replicate]
    split <;> rfl
   have hpk:pk (rowB (s :: l'))=b.drop k:=Rep.unique (pk_rep _) hrep (by rw [zc9];omega) (zgb _) (fun x hx=>hb x (List.mem_of_mem_drop hx))
   refine ⟨?_,?_,fun e=>absurd e (by simp)⟩
   · unfold encC
     rw [if_neg (by simp),hpk,List.length_cons,g1,show n - 1+1=n by omega,d1,List.take_append_drop]
   intro x hx
   rcases List.mem_cons.1 hx with rfl|hx
   · exact f2
   exact g3 x hx
 exact absurd h (by simp)
end Go.Proofs.YtlppibigceeimaaGreatDoor
