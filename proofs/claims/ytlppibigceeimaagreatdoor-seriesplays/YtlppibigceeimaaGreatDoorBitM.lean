import Derived.Test.YtlppibigceeimaaGreatDoorRow
import Derived.Laws.BitsAllLaws
set_option linter.unusedSimpArgs false
set_option linter.unusedVariables false
set_option maxHeartbeats 40000000
set_option maxRecDepth 100000
namespace Go.Proofs.YtlppibigceeimaaGreatDoor
open Go.RowKit
def bt (R:List Int) (i:Nat):Bool:=(R.getD (i / 8) 0).toNat.testBit (7 - i%8)
def low (v k:Nat):List Bool:=(List.range k).map (fun i=>v.testBit (k - 1 - i))
def Rep (R:List Int) (L:List Bool):Prop:=∀i,bt R i=L.getD i false
theorem zaq (v k:Nat):(low v k).length=k:=by simp [low]
theorem zcv (v k i:Nat):(low v k).getD i false=(decide (i<k) && v.testBit (k - 1 - i)):=by
 by_cases h:i<k
 · simp [low,List.getD,h]
 simp [low,List.getD,h]
theorem zfd (R:List Int) (i:Nat) (h:8*R.length≤i):bt R i=false:=by
 unfold bt
 rw [List.getD_eq_getElem?_getD,List.getElem?_eq_none (by omega)]
 simp
theorem Rep.nil:Rep [] []:=fun i=>by simp [bt]
theorem zcn (L M:List Bool) (i:Nat):(L++M).getD i false=if i<L.length then L.getD i false else M.getD (i - L.length) false:=by
 split
 · next h=>simp [List.getD,List.getElem?_append_left h]
 next h=>simp [List.getD,List.getElem?_append_right (Nat.le_of_not_lt h)]
theorem zdr {L M:List Bool} (hl:L.length=M.length) (h:∀i,i<L.length→L.getD i false=M.getD i false):L=M:=by
 refine List.ext_getElem hl (fun i h1 h2=>?_)
 have:=h i h1
 simpa [List.getD,h1,h2] using this
theorem low_cut (v k t:Nat) (h:t≤k):low v k=(low v k).take t++low v (k - t):=by
 refine zdr (by simp [zaq];omega) (fun i hi=>?_)
 rw [zcn,zcv,zcv]
 rw [zaq] at hi
 have hm:((low v k).take t).length=t:=by simp [zaq];omega
 rw [hm]
 by_cases h2:i<t
 · rw [if_pos h2]
   have e:((low v k).take t).getD i false=(low v k).getD i false:=by simp [List.getD,h2]
   rw [e,zcv]
 rw [if_neg h2]
 have a1:decide (i<k)=true:=by simpa using hi
 have a2:decide (i - t<k - t)=true:=by simp;omega
 rw [a1,a2,show k - t - 1 - (i - t)=k - 1 - i by omega]
theorem ze5 (v k t i:Nat) (h:t≤k):((low v k).take t).getD i false=(decide (i<t) && v.testBit (k - 1 - i)):=by
 by_cases h2:i<t
 · have e:((low v k).take t).getD i false=(low v k).getD i false:=by simp [List.getD,h2]
   rw [e,zcv]
   have a1:decide (i<k)=true:=by simp;omega
   rw [a1]
   simp [h2]
 rw [List.getD_eq_getElem?_getD,List.getElem?_eq_none (by simp;omega)]
 simp [h2]
theorem byte_bits {x:Nat} (h:x<256) (j:Nat) (hj:8≤j):x.testBit j=false:=
 Nat.testBit_lt_two_pow (Nat.lt_of_lt_of_le h (by
  have:2 ^ 8≤2 ^ j:=Nat.pow_le_pow_right (by omega) hj
  omega))
theorem bt_set (R:List Int) (q:Nat) (x:Int) (hq:q<R.length) (i:Nat):bt (R.set q x) i=if i / 8=q then x.toNat.testBit (7 - i%8) else bt R i:=by
 unfold bt
 by_cases h:i / 8=q
 · rw [if_pos h,h]
   simp [List.getD,hq]
 rw [if_neg h]
 simp [List.getD,List.getElem?_set_ne (Ne.symm h)]
theorem put_piece {R:List Int} {L:List Bool} (h:Rep R L) (s free take left v x:Nat) (hs:L.length=s) (hq:s / 8<R.length) (hf:free=8 - s%8) (ht:take≤free) (htl:take≤left)
 (hx:x=(R.getD (s / 8) 0).toNat ||| (((v / 2 ^ (left - take))%2 ^ take)*2 ^ (free - take))):
 Rep (R.set (s / 8) (x:Int)) (L++(low v left).take take):=by
 intro i
 rw [bt_set R _ _ hq,zcn,hs]
 by_cases hi:i / 8=s / 8
 · rw [if_pos hi,Int.toNat_natCast,hx,Nat.testBit_or,Nat.testBit_mul_two_pow,Nat.testBit_mod_two_pow,Nat.testBit_div_two_pow]
   have hb:(R.getD (s / 8) 0).toNat.testBit (7 - i%8)=L.getD i false:=by
    have:=h i
    unfold bt at this
    rw [hi] at this
    exact this
   rw [hb]
   by_cases h1:i<s
   · rw [if_pos h1]
     have a:decide (7 - i%8 - (free - take)<take)=false:=by simp;omega
     simp [a]
   rw [if_neg h1,ze5 _ _ _ _ htl]
   have e0:L.getD i false=false:=by simp [List.getD,show L.length≤i by omega]
   rw [e0,Bool.false_or]
   by_cases h2:i - s<take
   · have a:decide (7 - i%8 - (free - take)<take)=true:=by simp;omega
     have b:decide (free - take≤7 - i%8)=true:=by simp;omega
     have c:decide (i - s<take)=true:=by simp;omega
     rw [a,b,c,Bool.true_and,Bool.true_and,Bool.true_and]
     congr 1
     omega
   have c:decide (i - s<take)=false:=by simp;omega
   have b:decide (free - take≤7 - i%8)=false:=by simp;omega
   rw [b,c,Bool.false_and,Bool.false_and]
 rw [if_neg hi,h i]
 by_cases h1:i<s
 · rw [if_pos h1]
 rw [if_neg h1,ze5 _ _ _ _ htl]
 have e0:L.getD i false=false:=by simp [List.getD,show L.length≤i by omega]
 have c:decide (i - s<take)=false:=by simp;omega
 rw [e0,c,Bool.false_and]
theorem Rep.pad {R:List Int} {L:List Bool} (h:Rep R L) (k:Nat):Rep (R++List.replicate k 0) L:=by
 intro i
 rw [←h i]
 unfold bt
 by_cases h1:i / 8<R.length
 · simp [List.getD,List.getElem?_append_left h1]
 have e:(R++List.replicate k 0).getD (i / 8) 0=0:=by
  rw [List.getD_eq_getElem?_getD,List.getElem?_append_right (by omega),List.getElem?_replicate]
  split <;> rfl
 rw [e,List.getD_eq_getElem?_getD,List.getElem?_eq_none (by omega)]
 rfl
theorem Rep.take {R:List Int} {L:List Bool} (h:Rep R L) (k:Nat) (hk:L.length≤8*k):Rep (R.take k) L:=by
 intro i
 by_cases h1:i / 8<k
 · rw [←h i]
   unfold bt
   simp [List.getD,h1]
 have e0:L.getD i false=false:=by simp [List.getD,show L.length≤i by omega]
 rw [e0]
 unfold bt
 rw [List.getD_eq_getElem?_getD,List.getElem?_eq_none (by simp;omega)]
 simp
theorem Rep.unique {R S:List Int} {L:List Bool} (h:Rep R L) (k:Rep S L) (hl:R.length=S.length) (hR:Byte R) (hS:Byte S):R=S:=by
 refine List.ext_getElem hl (fun q h1 h2=>?_)
 have a:=hR _ (List.getElem_mem h1)
 have b:=hS _ (List.getElem_mem h2)
 have:R[q].toNat=S[q].toNat:=by
  apply Nat.eq_of_testBit_eq
  intro j
  by_cases hj:j<8
  · have:=(h (8*q+(7 - j))).trans (k (8*q+(7 - j))).symm
    unfold bt at this
    rw [show (8*q+(7 - j)) / 8=q by omega,show 7 - (8*q+(7 - j))%8=j by omega] at this
    simpa [List.getD,h1,h2] using this
  rw [byte_bits (by omega) j (by omega),byte_bits (by omega) j (by omega)]
 omega
theorem cut_rep {R R':List Int} {L:List Bool} (h:Rep R L) (n:Nat) (hn:n<L.length) (hlen:L.length≤8*R.length) (hl:R'.length=R.length)
 (hc:∀q,q<R.length→R'.getD q 0=if n%8≠0∧q=n / 8 then (((R.getD q 0).toNat &&& (255 - (2 ^ (8 - n%8) - 1)):Nat):Int) else if (n+7) / 8≤q∧q<(L.length+7) / 8 then 0 else R.getD q 0):
 Rep R' (L.take n):=by
 intro i
 have et:(L.take n).getD i false=(decide (i<n) && L.getD i false):=by
  by_cases h1:i<n
  · simp [List.getD,h1]
  rw [List.getD_eq_getElem?_getD,List.getElem?_eq_none (by simp;omega)]
  simp [h1]
 rw [et]
 by_cases hq:i / 8<R.length
 · have hi:=h i
   unfold bt at hi ⊢
   rw [hc _ hq]
   split
   · next h1=>
     rw [Int.toNat_natCast,Nat.testBit_and,hi]
     by_cases h2:i<n
     · have m:(255 - (2 ^ (8 - n%8) - 1)).testBit (7 - i%8)=true:=by
        have hr:n%8<8:=Nat.mod_lt _ (by omega)
        have hlt:i%8<n%8:=by omega
        generalize n%8=r at*
        generalize i%8=t at*
        have:∀r,r<8→∀t,t<r→(255 - (2 ^ (8 - r) - 1)).testBit (7 - t)=true:=by decide
        exact this r hr t hlt
       simp [m,h2]
     have m:(255 - (2 ^ (8 - n%8) - 1)).testBit (7 - i%8)=false:=by
      have hr:n%8<8:=Nat.mod_lt _ (by omega)
      have hlt:n%8≤i%8:=by omega
      have h8:i%8<8:=Nat.mod_lt _ (by omega)
      have h0:0<n%8:=by omega
      generalize n%8=r at*
      generalize i%8=t at*
      have:∀r,r<8→∀t,t<8→0<r→r≤t→(255 - (2 ^ (8 - r) - 1)).testBit (7 - t)=false:=by decide
      exact this r hr t h8 h0 hlt
     simp [m,h2]
   next h1=>
   split
   · next h2=>
     have:¬i<n:=by omega
     simp [this]
   next h2=>
   rw [hi]
   by_cases h3:i<n
   · simp [h3]
   have e0:L.getD i false=false:=by
    have:L.length≤i:=by
     by_cases h4:n%8=0
     · omega
     have:i / 8≠n / 8:=fun e=>h1 ⟨h4,e⟩
     omega
    simp [List.getD,this]
   rw [e0,Bool.and_false]
 rw [zfd _ _ (by omega)]
 have:¬i<n:=by omega
 simp [this]
def Nm (V n:Nat) (f:Nat→Bool):Prop:=∀j,V.testBit j=(decide (j<n) && f (n - 1 - j))
theorem Nm.zero (f:Nat→Bool):Nm 0 0 f:=fun j=>by simp
theorem Nm.lt {V n:Nat} {f:Nat→Bool} (h:Nm V n f):V<2 ^ n:=by
 apply Nat.lt_pow_two_of_testBit
 intro j hj
 rw [h j]
 have:¬j<n:=by omega
 simp [this]
end Go.Proofs.YtlppibigceeimaaGreatDoor
