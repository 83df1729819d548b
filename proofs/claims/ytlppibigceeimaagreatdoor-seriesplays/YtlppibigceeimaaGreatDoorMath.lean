import Derived.WalkKit
set_option linter.unusedSimpArgs false
set_option linter.unusedVariables false
set_option maxHeartbeats 40000000
set_option maxRecDepth 100000
namespace Go.Proofs.YtlppibigceeimaaGreatDoor.Q
def grpF:Nat→Nat→Nat
 |0,_=>0
 |f+1,n=>if n<128 then 0 else grpF f (n / 128)+1
def grp (n:Nat):Nat:=grpF 9 n
def encK:Nat→Nat→List Int
 |0,n=>[(n:Int)]
 |k+1,n=>((n%128+128:Nat):Int) :: encK k (n / 128)
def enc (n:Nat):List Int:=encK (grp n) n
theorem grpF_le:∀f n,grpF f n≤f
 |0,_=>Nat.le_refl _
 |f+1,n=>by
  unfold grpF
  split
  · omega
  have:=grpF_le f (n / 128);omega
theorem grp_le (n:Nat):grp n≤9:=grpF_le 9 n
theorem grpF_fuel:∀f n,n<128 ^ (f+1)→grpF (f+1) n=grpF f n
 |0,n,h=>by
  have:n<128:=by simpa using h
  simp [grpF,this]
 |f+1,n,h=>by
  have e1:grpF (f+1+1) n=if n<128 then 0 else grpF (f+1) (n / 128)+1:=rfl
  have e2:grpF (f+1) n=if n<128 then 0 else grpF f (n / 128)+1:=rfl
  rw [e1,e2]
  split
  · rfl
  rw [grpF_fuel f (n / 128) (by rw [Nat.pow_succ] at h;omega)]
theorem grp_small (n:Nat) (h:n<128):grp n=0:=by simp [grp,grpF,h]
theorem grp_step (n:Nat) (h:128≤n) (h1:n<18446744073709551616):grp n=grp (n / 128)+1:=by
 show grpF 9 n=grpF 9 (n / 128)+1
 rw [grpF_fuel 8 (n / 128) (by omega),grpF,if_neg (by omega)]
theorem grpF_is:∀f k x,k≤f→(k=0∨128 ^ k≤x)→x<128 ^ (k+1)→grpF f x=k
 |0,k,x,h,_,_=>by simp [grpF];omega
 |f+1,0,x,h,h1,h2=>by
  have:x<128:=by simpa using h2
  simp [grpF,this]
 |f+1,k+1,x,h,h1,h2=>by
  have h1:128 ^ (k+1)≤x:=by omega
  have hp:0<128 ^ k:=Nat.pow_pos (by omega)
  rw [Nat.pow_succ] at h1 h2
  rw [grpF,if_neg (by omega),grpF_is f k (x / 128) (by omega) (by right;omega) (by omega)]
theorem ze9:∀k n,(encK k n).length=k+1
 |0,_=>rfl
 |k+1,n=>by simp [encK,ze9 k]
theorem enc_length (n:Nat):(enc n).length=grp n+1:=ze9 _ _
def pre:Nat→Nat→List Int
 |0,_=>[]
 |k+1,n=>pre k n++[((n / 128 ^ k%128+128:Nat):Int)]
theorem pre_cons:∀k n,pre (k+1) n=((n%128+128:Nat):Int) :: pre k (n / 128)
 |0,n=>by simp [pre]
 |k+1,n=>by
  have e:pre (k+1+1) n=pre (k+1) n++[((n / 128 ^ (k+1)%128+128:Nat):Int)]:=rfl
  rw [e,pre_cons k n,pre,Nat.pow_succ,Nat.mul_comm,Nat.div_div_eq_div_mul]
  rfl
theorem encK_pre:∀k n,encK k n=pre k n++[((n / 128 ^ k:Nat):Int)]
 |0,n=>by simp [encK,pre]
 |k+1,n=>by
  rw [encK,pre_cons,encK_pre k,Nat.pow_succ,Nat.mul_comm (128 ^ k),←Nat.div_div_eq_div_mul]
  rfl
theorem enc_pre (n:Nat):enc n=pre (grp n) n++[((n / 128 ^ grp n:Nat):Int)]:=encK_pre _ _
theorem grpF_lt:∀f n,n<128 ^ (f+1)→n<128 ^ (grpF f n+1)
 |0,n,h=>by simpa [grpF] using h
 |f+1,n,h=>by
  rw [grpF]
  split
  · simpa
  have:=grpF_lt f (n / 128) (by rw [Nat.pow_succ] at h;omega)
  rw [Nat.pow_succ]
  omega
theorem grp_lt (n:Nat) (h:n<18446744073709551616):n<128 ^ (grp n+1):=grpF_lt 9 n (by omega)
theorem last_lt (n:Nat) (h:n<18446744073709551616):n / 128 ^ grp n<128:=by
 have:=grp_lt n h
 rw [Nat.pow_succ] at this
 exact Nat.div_lt_of_lt_mul this
theorem pre_byte:∀k n,∀c∈pre k n,128≤c∧c≤255
 |0,n,c,h=>by simp [pre] at h
 |k+1,n,c,h=>by
  rw [pre,List.mem_append] at h
  rcases h with h|h
  · exact pre_byte k n c h
  simp at h;omega
theorem zft (k:Nat):128 ^ k=2 ^ (7*k):=by rw [Nat.pow_mul]
def zbi:List Int→Nat→Nat→Nat×Nat
 |[],_,_=>(0,0)
 |c :: t,i,n=>
  if 10≤i then (0,0) else if i=9∧1<c then (0,0)
  else if 128≤c then zbi t (i+1) (n+(c.toNat%128)*128 ^ i)
  else if c=0∧0<i then (0,0)
  else (n+(c.toNat%128)*128 ^ i,i+1)
def dec (l:List Int):Nat×Nat:=zbi l 0 0
end Go.Proofs.YtlppibigceeimaaGreatDoor.Q
