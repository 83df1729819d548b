import Derived.Test.YtlppibigceeimaaGreatDoorMlG
import Derived.Test.YtlppibigceeimaaGreatDoorChecked
import Derived.Deep.QuietTactic
import Derived.Deep.CutRange
import Derived.BigQuiet
import Derived.Handy
import Derived.LoopTactic
import Derived.Laws.Bits64b
import Derived.Lib.TrailingZeros
set_option linter.unusedSimpArgs false
set_option linter.unusedVariables false
set_option maxHeartbeats 40000000
set_option maxRecDepth 100000
namespace Go.Proofs.YtlppibigceeimaaGreatDoor.K
open Go.RowKit
def wC (r:List Nat):List Value:=r.map fun (x:Nat)=>Value.int .u64 (x:Int)
theorem wC_at {r:List Nat} {q x:Nat} (h:r[q]?=some x):(wC r)[q]?=some (.int .u64 (x:Int)):=by simp [wC,h]
theorem wC_set (r:List Nat) (q x:Nat):(wC r).set q (.int .u64 (x:Int))=wC (r.set q x):=by simp [wC,List.map_set]
theorem pow_lt {k:Nat} (h:k<64):2 ^ k<18446744073709551616:=by
 have:2 ^ k≤2 ^ 63:=Nat.pow_le_pow_right (by omega) (by omega)
 omega
theorem wrap_pow {k:Nat} (h:k<64):IntKind.u64.wrap (2 ^ k)=((2 ^ k:Nat):Int):=by
 have:=pow_lt h
 have e:((2:Int) ^ k)=((2 ^ k:Nat):Int):=by norm_cast
 rw [e]
 generalize 2 ^ k=pk at*
 rw [IntKind.wrap_u64]
 omega
theorem andNot_pow (x k:Nat) (hx:x<18446744073709551616) (h:k<64):∃y:Nat,bits .andNot .u64 (x:Int) ((2 ^ k:Nat):Int)=(y:Int)∧y<18446744073709551616∧∀j,j<64→y.testBit j=(x.testBit j && !decide (j=k)):=by
 have hp:=pow_lt h
 refine ⟨(BitVec.ofInt 64 (x:Int) &&& ~~~BitVec.ofInt 64 ((2 ^ k:Nat):Int)).toNat,?_,BitVec.isLt _,fun j hj=>?_⟩
 · show IntKind.u64.wrap (((BitVec.ofInt 64 (x:Int) &&& ~~~BitVec.ofInt 64 ((2 ^ k:Nat):Int)).toNat:Nat):Int)=_
   have:=BitVec.isLt (BitVec.ofInt 64 (x:Int) &&& ~~~BitVec.ofInt 64 ((2 ^ k:Nat):Int))
   rw [IntKind.wrap_u64]
   omega
 rw [←BitVec.getLsbD,BitVec.getLsbD_and,BitVec.getLsbD_not,BitVec.ofInt_natCast,BitVec.ofInt_natCast,BitVec.getLsbD_ofNat,BitVec.getLsbD_ofNat,Nat.testBit_two_pow]
 have e:decide (k=j)=decide (j=k):=by simp [eq_comm]
 simp [hj,e]
structure Fr (w:World) (g m:Nat) (S:Nat→Bool):Prop where
 ex:∃r:List Nat,Blk w g 51 (wC r)∧r.length=m∧(∀x∈r,x<18446744073709551616)∧∀q x,r[q]?=some x→∀k,k<64→S (64*q+k)=x.testBit k
theorem Fr.later {w w':World} {g m:Nat} {S:Nat→Bool} (h:Fr w g m S) (hb:Below w.heap.size w w'):Fr w' g m S:=by
 obtain ⟨r,h1,h2⟩:=h.ex
 exact ⟨r,h1.later hb,h2⟩
theorem Fr.chg {F:Nat→Prop} {w w':World} {g m:Nat} {S:Nat→Bool} (h:Fr w g m S) (hc:Chg F w w') (hF:¬F g):Fr w' g m S:=by
 obtain ⟨r,h1,h2⟩:=h.ex
 exact ⟨r,hc.blk h1 hF,h2⟩
theorem Fr.tg {w:World} {g m:Nat} {S:Nat→Bool} (h:Fr w g m S):Tg w g 51:=by
 obtain ⟨r,h1,h2⟩:=h.ex
 exact h1.tg
theorem divmod {i q k:Nat} (hi:i=64*q+k) (hk:k<64) (hi2:i≤65536):((i:Int) / 64=(q:Int)∧(i:Int)%64=(k:Int))∧((i:Int).tdiv 64=(q:Int)∧(i:Int).tmod 64=(k:Int))∧i / 64=q∧i%64=k:=by
 refine ⟨⟨by omega,by omega⟩,⟨?_,?_⟩,by omega,by omega⟩
 · rw [Int.tdiv_eq_ediv_of_nonneg (by omega)];omega
 rw [Int.tmod_eq_emod_of_nonneg (by omega)];omega
theorem addP (g m c i:Nat) (S:Nat→Bool) (w:World) (h:Fr w g m S) (hmc:m≤c) (hi:i<64*m) (hi2:i≤65536):
 Calls Tryz.prog 44 #[.slice (some ⟨g,0,none⟩) m c,.int .i64 (i:Int)] w fun e w'=>e=.returned (.tuple #[])∧Fr w' g m (fun j=>decide (j=i) || S j)∧Chg (fun j=>j=g) w w':=by
 obtain ⟨r,hB,hm,hw,hS⟩:=h.ex
 obtain ⟨q,k,hqk,hk⟩:∃q k,i=64*q+k∧k<64:=⟨i / 64,i%64,by omega,by omega⟩
 have hq:q<m:=by omega
 obtain ⟨x,hx⟩:∃x,r[q]?=some x:=⟨r[q]'(by omega),by simp [hm,hq]⟩
 have c0:=hB.cell q
 rw [wC_at hx] at c0
 have f0:=hB.frozen q
 obtain ⟨⟨e1,e2⟩,⟨e3,e4⟩,e5,e6⟩:=divmod hqk hk hi2
 have e7:=wrap_pow hk
 have e8:=bits_or_u64_nat x (2 ^ k) (hw x (List.mem_of_getElem? hx)) (pow_lt hk)
 have HF:Hid (Fr (w.setCell ⟨g,q,none⟩ (.int .u64 ((x ||| 2 ^ k:Nat):Int))).drew g m (fun j=>decide (j=i) || S j)):=zaa ⟨r.set q (x ||| 2 ^ k),(by have:=hB.set q (.int .u64 ((x ||| 2 ^ k:Nat):Int));rw [wC_set] at this;exact this),by simpa using hm,by
  intro y hy
  rcases List.mem_or_eq_of_mem_set hy with h1|rfl
  · exact hw y h1
  · exact Nat.or_lt_two_pow (n:=64) (hw x (List.mem_of_getElem? hx)) (pow_lt hk),by
  intro q' x' hx' k' hk'
  rw [List.getElem?_set] at hx'
  split at hx'
  · next e=>
    subst e
    rw [if_pos (by omega)] at hx'
    cases hx'
    rw [Nat.testBit_or,Nat.testBit_two_pow,hS q x hx k' hk']
    have:(64*q+k'=i)↔k=k':=by omega
    simp only [this]
    exact Bool.or_comm _ _
  next e=>
  rw [←hS q' x' hx' k' hk']
  have:¬64*q'+k'=i:=by omega
  simp [this]⟩
 clear hx hB hm hqk hw hS h hi
 generalize 2 ^ k=pk at*
 go_enter Tryz.func44,Tryz.ntmps44
 go_region
 all_goals
  refine bodyPost_end (results_none rfl _ _ _) rfl ?_
  first
   |exact ⟨rfl,HF.out,(Chg.set ⟨g,q,none⟩ _ w).trans (Chg.drew _ _) (fun _ _ h=>h)⟩
   |(rw [e7,e8];exact ⟨rfl,HF.out,(Chg.set ⟨g,q,none⟩ _ w).trans (Chg.drew _ _) (fun _ _ h=>h)⟩)
theorem removeP (g m c i:Nat) (S:Nat→Bool) (w:World) (h:Fr w g m S) (hmc:m≤c) (hi:i<64*m) (hi2:i≤65536):
 Calls Tryz.prog 88 #[.slice (some ⟨g,0,none⟩) m c,.int .i64 (i:Int)] w fun e w'=>e=.returned (.tuple #[])∧Fr w' g m (fun j=>!decide (j=i) && S j)∧Chg (fun j=>j=g) w w':=by
 obtain ⟨r,hB,hm,hw,hS⟩:=h.ex
 obtain ⟨q,k,hqk,hk⟩:∃q k,i=64*q+k∧k<64:=⟨i / 64,i%64,by omega,by omega⟩
 have hq:q<m:=by omega
 obtain ⟨x,hx⟩:∃x,r[q]?=some x:=⟨r[q]'(by omega),by simp [hm,hq]⟩
 have c0:=hB.cell q
 rw [wC_at hx] at c0
 have f0:=hB.frozen q
 obtain ⟨⟨e1,e2⟩,⟨e3,e4⟩,e5,e6⟩:=divmod hqk hk hi2
 have e7:=wrap_pow hk
 obtain ⟨y,e8,hy64,hyb⟩:=andNot_pow x k (hw x (List.mem_of_getElem? hx)) hk
 have HF:Hid (Fr (w.setCell ⟨g,q,none⟩ (.int .u64 (y:Int))).drew g m (fun j=>!decide (j=i) && S j)):=zaa ⟨r.set q y,(by have:=hB.set q (.int .u64 (y:Int));rw [wC_set] at this;exact this),by simpa using hm,by
  intro z hz
  rcases List.mem_or_eq_of_mem_set hz with h1|rfl
  · exact hw z h1
  · exact hy64,by
  intro q' x' hx' k' hk'
  rw [List.getElem?_set] at hx'
  split at hx'
  · next e=>
    subst e
    rw [if_pos (by omega)] at hx'
    cases hx'
    rw [hyb k' hk',hS q x hx k' hk']
    have:(64*q+k'=i)↔k'=k:=by omega
    simp only [this]
    exact Bool.and_comm _ _
  next e=>
  rw [←hS q' x' hx' k' hk']
  have:¬64*q'+k'=i:=by omega
  simp [this]⟩
 clear hx hB hm hqk hw hS h hi hyb hy64
 generalize 2 ^ k=pk at*
 go_enter Tryz.func88,Tryz.ntmps88
 go_region
 all_goals
  refine bodyPost_end (results_none rfl _ _ _) rfl ?_
  first
   |exact ⟨rfl,HF.out,(Chg.set ⟨g,q,none⟩ _ w).trans (Chg.drew _ _) (fun _ _ h=>h)⟩
   |(rw [e7,e8];exact ⟨rfl,HF.out,(Chg.set ⟨g,q,none⟩ _ w).trans (Chg.drew _ _) (fun _ _ h=>h)⟩)
structure Gv (w:World):Prop where
 tab:∀j,j<64→w.cell? ⟨0,j,none⟩=some (.int .u8 ((Lib.deBruijn64tab.getD j 0:Nat):Int))
theorem Gv.later {w w':World} (h:Gv w) (hb:Below w.heap.size w w'):Gv w':=
 ⟨fun j hj=>by rw [hb.cell (p:=⟨0,j,none⟩) (World.block_lt_of_cell? w _ (h.tab j hj))];exact h.tab j hj⟩
theorem Gv.chg {F:Nat→Prop} {w w':World} (h:Gv w) (hc:Chg F w w') (hF:¬F 0):Gv w':=
 ⟨fun j hj=>by
  rw [←h.tab j hj]
  exact World.cell?_of_block (hc.block 0 (by have:=World.block_lt_of_cell? w _ (h.tab 0 (by omega));simpa using this) hF)⟩
theorem tz_key (x a:Nat) (hx:x<18446744073709551616) (hx0:x≠0) (hlow:x &&& (18446744073709551616 - x)=a):
 IntKind.u64.wrap (bits BinOp.and IntKind.u64 (x:Int) (IntKind.u64.wrap (-(x:Int)))*285870213051353865) / 288230376151711744=((a*285870213051353865%18446744073709551616 / 288230376151711744:Nat):Int):=by
 have e1:IntKind.u64.wrap (-(x:Int))=((18446744073709551616 - x:Nat):Int):=by rw [IntKind.wrap_u64];omega
 rw [e1,bits_and_u64_nat x _ hx (by omega),hlow,IntKind.wrap_u64]
 omega
theorem tz_core (x k idx:Nat) (w:World) (hx0:((x:Int)==0)=false)
 (key:IntKind.u64.wrap (bits BinOp.and IntKind.u64 (x:Int) (IntKind.u64.wrap (-(x:Int)))*285870213051353865) / 288230376151711744=(idx:Int))
 (hi:idx<64) (hk:k<64) (hcell:w.cell? ⟨0,idx,none⟩=some (.int .u8 k)):
 Calls Tryz.prog 107 #[.int .u64 x] w fun e w'=>e=.returned (.int .i64 k)∧w'=w:=by
 go_enter Tryz.func107,Tryz.ntmps107
 go_wp2_with (simp only [key])
 go_ret
 exact ⟨rfl,rfl⟩
theorem tzP (x:Nat) (w:World) (hx:x<18446744073709551616) (hx0:x≠0) (hG:Gv w):
 Calls Tryz.prog 107 #[.int .u64 (x:Int)] w fun e w'=>e=.returned (.int .i64 (Lib.ctz 64 x:Int))∧w'=w:=by
 obtain ⟨hlow,hk⟩:=Lib.lowest_bit 64 x hx0 hx
 obtain ⟨hi,htab⟩:=Lib.deBruijn64_at _ hk
 have hcell:=hG.tab _ hi
 rw [htab] at hcell
 exact tz_core x _ _ w (by simpa using hx0) (tz_key x _ hx hx0 hlow) hi hk hcell
theorem ctz_bits (x:Nat) (hx:x<18446744073709551616) (hx0:x≠0):Lib.ctz 64 x<64∧x.testBit (Lib.ctz 64 x)=true∧∀j,j<Lib.ctz 64 x→x.testBit j=false:=by
 obtain ⟨m,hm,hk⟩:=Lib.ctzFrom_spec 64 x (by omega) hx
 have e:Lib.ctz 64 x=Lib.ctzFrom 64 x:=by simp [Lib.ctz,hx0]
 rw [e]
 generalize Lib.ctzFrom 64 x=K at*
 refine ⟨hk,?_,fun j hj=>?_⟩
 · rw [hm,Nat.testBit_two_pow_mul]
   simp
 rw [hm,Nat.testBit_two_pow_mul]
 simp
 omega
def lst (S:Nat→Bool):Nat→Nat→Option Nat
 |0,_=>none
 |n+1,i=>if S i then some i else lst S n (i+1)
theorem zgi {S:Nat→Bool}:∀{n i j:Nat},i≤j→j<i+n→S j=true→(∀k,i≤k→k<j→S k=false)→lst S n i=some j
 |0,i,j,h1,h2,_,_=>by omega
 |n+1,i,j,h1,h2,hj,hk=>by
  unfold lst
  by_cases e:i=j
  · subst e
    rw [if_pos hj]
  rw [if_neg (by rw [hk i (Nat.le_refl _) (by omega)];simp)]
  exact zgi (by omega) (by omega) hj (fun k h1 h2=>hk k (by omega) h2)
theorem zgj {S:Nat→Bool}:∀{n i:Nat},(∀k,i≤k→k<i+n→S k=false)→lst S n i=none
 |0,i,_=>rfl
 |n+1,i,hk=>by
  unfold lst
  rw [if_neg (by rw [hk i (Nat.le_refl _) (by omega)];simp)]
  exact zgj (fun k h1 h2=>hk k (by omega) (by omega))
def lstV (o:Option Nat):Value:=.tuple #[.int .i64 ((o.getD 0:Nat):Int),.bool o.isSome]
theorem leastP (g m c:Nat) (S:Nat→Bool) (w:World) (h:Fr w g m S) (hm2:m≤1024) (hG:Gv w):
 Calls Tryz.prog 87 #[.slice (some ⟨g,0,none⟩) m c] w fun e w'=>e=.returned (lstV (lst S (64*m) 0))∧w'=w:=by
 obtain ⟨r,hB,hm,hw,hS⟩:=h.ex
 have HB:=zaa hB
 have HS:=zaa hS
 have HW:=zaa hw
 have HM:=zaa hm
 have HG:=zaa hG
 obtain ⟨R,hR⟩:∃R,lstV (lst S (64*m) 0)=R:=⟨_,rfl⟩
 rw [hR]
 have HR:=zaa hR
 clear hB hS hw hm hG h hR
 go_enter Tryz.func87,Tryz.ntmps87
 go_wp2_with fail
 go_loopw [8] (fun v8 wx=>∃i:Nat,v8=.int .i64 (i:Int)∧i≤m∧Hid (∀k,k<64*i→S k=false)∧wx=w) (fun v8 _=>m - (intOf v8).toNat)
 case atStart=>exact ⟨0,rfl,by omega,zaa (fun k hk=>by omega),rfl⟩
 case round=>
  obtain ⟨i,rfl,hi,hp,rfl⟩:=hrel
  by_cases hlt:i<m
  · obtain ⟨x,hx⟩:∃x,r[i]?=some x:=⟨r[i]'(by have:=HM.out;omega),by simp [HM.out,hlt]⟩
    have c0:=HB.out.cell i
    rw [wC_at hx] at c0
    have hx64:=HW.out x (List.mem_of_getElem? hx)
    have HX:=zaa hx
    clear hx
    by_cases hx0:x=0
    · have h0:((x:Int)==0)=true:=by simp [hx0]
      have h0':((x:Int) !=0)=false:=by simp [hx0]
      have hp2:∀k,k<64*(i+1)→S k=false:=fun k hk=>by
       by_cases h1:k<64*i
       · exact hp.out k h1
       have:=HS.out i x HX.out (k - 64*i) (by omega)
       rw [show 64*i+(k - 64*i)=k by omega,hx0] at this
       rw [this]
       simp
      have HX0:=zaa hx0
      clear hx0
      go_wp2_with fail
      all_goals
       refine ⟨⟨i+1,by first|rfl|simp,by omega,zaa hp2,by first|rfl|trivial⟩,?_⟩
       show m - ((i:Int)+1).toNat<m - (i:Int).toNat
       omega
    have h0:((x:Int)==0)=false:=by simpa using hx0
    have h0':((x:Int) !=0)=true:=by simp [bne,h0]
    have HT:=zaa (tzP x wr hx64 hx0 HG.out)
    obtain ⟨b1,b2,b3⟩:=ctz_bits x hx64 hx0
    have he:lst S (64*m) 0=some (64*i+Lib.ctz 64 x):=by
     refine zgi (Nat.zero_le _) (by omega) ?_ ?_
     · rw [HS.out i x HX.out _ b1,b2]
     intro k _ hk
     by_cases h1:k<64*i
     · exact hp.out k h1
     have:=HS.out i x HX.out (k - 64*i) (by omega)
     rw [show 64*i+(k - 64*i)=k by omega] at this
     rw [this]
     exact b3 _ (by omega)
    have HE:=zaa he
    generalize Lib.ctz 64 x=z at*
    clear b2 b3 he hx0
    go_wp2_with (refine HT.out.mono ?_;clear HT;rintro e w3 ⟨rfl,rfl⟩)
    go_ret2
    rw [←HR.out,HE.out]
    refine ⟨?_,rfl⟩
    simp [lstV]
    omega
  obtain rfl:i=m:=by omega
  have he:lst S (64*i) 0=none:=zgj (fun k _ hk=>hp.out k (by omega))
  have HE:=zaa he
  clear he
  go_wp2_with fail
  go_ret2
  rw [←HR.out,HE.out]
  exact ⟨rfl,rfl⟩
end Go.Proofs.YtlppibigceeimaaGreatDoor.K
