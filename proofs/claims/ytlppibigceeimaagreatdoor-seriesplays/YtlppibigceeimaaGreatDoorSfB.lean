import Derived.Test.YtlppibigceeimaaGreatDoorSeX
import Derived.Laws.StructEq
set_option linter.unusedSimpArgs false
set_option linter.unusedVariables false
set_option maxHeartbeats 40000000
set_option maxRecDepth 100000
namespace Go.Proofs.YtlppibigceeimaaGreatDoor
open Go.RowKit
theorem zfi (x k:Int) (hk:0<k) (hk2:k≤9223372036854775807) (hx:-9223372036854775808≤x∧x≤9223372036854775807) (w:World):
 Calls Tryz.prog 5 #[.int .i64 x,.int .i64 k] w fun e w'=>(∃r:Nat,(r:Int)<k∧e=.returned (.int .i64 (r:Int)))∧w'=w:=by
 have hk0:¬k=0:=by omega
 have hkn:¬k= -1:=by omega
 by_cases h:x<0
 · have e:Int.tmod (-(x+1)) k=(-(x+1))%k:=Int.tmod_eq_emod_of_nonneg (by omega)
   have h1:=Int.emod_nonneg (-(x+1)) hk0
   have h2:=Int.emod_lt_of_pos (-(x+1)) hk
   obtain ⟨r,hr⟩:∃r:Nat,(-(x+1)).tmod k=(r:Int):=⟨((-(x+1))%k).toNat,by omega⟩
   have HR:Hid ((r:Int)<k):=zaa (by omega)
   clear e h1 h2
   go_enter Tryz.func5,Tryz.ntmps5
   go_wp2_with fail
   go_ret
   exact ⟨⟨r,HR.out,by first|rfl|rw [hr]⟩,rfl⟩
 have e:Int.tmod x k=x%k:=Int.tmod_eq_emod_of_nonneg (by omega)
 have h1:=Int.emod_nonneg x hk0
 have h2:=Int.emod_lt_of_pos x hk
 obtain ⟨r,hr⟩:∃r:Nat,x.tmod k=(r:Int):=⟨(x%k).toNat,by omega⟩
 have HR:Hid ((r:Int)<k):=zaa (by omega)
 clear e h1 h2
 go_enter Tryz.func5,Tryz.ntmps5
 go_wp2_with fail
 go_ret
 exact ⟨⟨r,HR.out,by first|rfl|rw [hr]⟩,rfl⟩
theorem Ss.chg0 {w w':World} {ad:Option Addr} {l:List Sm} (h:Ss w ad l) (hc:Chg (fun _=>False) w w'):Ss w' ad l:=by
 refine ⟨h.sz,fun h0=>?_⟩
 obtain ⟨b,off,e,hlt,hcc⟩:=h.at' h0
 refine ⟨b,off,e,Nat.lt_of_lt_of_le hlt hc.size,fun i x hx=>?_⟩
 obtain ⟨k1,k2⟩:=hcc i x hx
 have hb:=hc.block b hlt (fun e=>e)
 exact ⟨by rw [World.cell?_of_block (w:=w) (a:=⟨b,_,none⟩) hb];exact k1,by rw [World.cell?_of_block (w:=w) (a:=⟨b,_,none⟩) hb];exact k2⟩
theorem sameSP (w:World) (a1 a2:Option Addr) (c1 c2:Nat) (l:List Sm) (h1:Ss w a1 l) (h2:Ss w a2 l) (hl:l.length≤1000000000):
 Calls Tryz.prog 51 #[.slice a1 l.length c1,.slice a2 l.length c2] w fun e w'=>e=.returned (.bool true)∧Chg (fun _=>False) w w':=by
 have H1:=zaa h1
 have H2:=zaa h2
 obtain ⟨n,hn⟩:∃n,l.length=n:=⟨_,rfl⟩
 rw [hn] at hl
 rw [hn]
 have HN:=zaa hn
 clear h1 h2 hn
 go_enter Tryz.func51,Tryz.ntmps51
 go_wp2_with fail
 generalize hnn:((n:Int) !=(n:Int))=bb at*
 go_loopw [5] (fun s5 wr=>∃i:Nat,s5=.int .i64 (i:Int)∧i≤n∧Hid (Chg (fun _=>False) w wr)) (fun s5 _=>n - (intOf s5).toNat)
 case atStart=>exact ⟨0,rfl,by omega,zaa (Chg.refl _ _)⟩
 case round=>
  rename World=>wr
  obtain ⟨i,rfl,hi,hC⟩:=hrel
  by_cases hlt:i<n
  · have hltz:(i:Int)<(n:Int):=by omega
    obtain ⟨b1,o1,x1,e1,hb1,hx1,_,k1,k2,_⟩:=(H1.out.chg0 hC.out).get (i:=i) (by rw [HN.out];exact hlt)
    obtain ⟨b2,o2,x2,e2,hb2,hx2,_,k3,k4,_⟩:=(H2.out.chg0 hC.out).get (i:=i) (by rw [HN.out];exact hlt)
    have hxx:x1=x2:=by rw [hx1] at hx2;exact Option.some.inj hx2
    subst hxx e1 e2
    clear hx1 hx2
    go_wp2_with fail
    go_quiet (fail)
    go_wp2
    refine ⟨⟨i+1,by rw [Int.natCast_add];rfl,by omega,zaa (hC.out.trans (Chg.drewN (fun _=>False) wr nq) (fun _ _ e=>e))⟩,?_⟩
    simp [intOf]
    omega
  have hltz:¬(i:Int)<(n:Int):=by omega
  go_wp2
  go_ret
  exact ⟨rfl,hC.out⟩
theorem sameCP (w:World) (a1 a2:Option Addr) (c1 c2 base n:Nat) (D1 D2:Nat→Prop) (L:List (List Int)) (hn:L.length=n) (h1:Ck w base (.slice a1 n c1) L D1) (h2:Ck w base (.slice a2 n c2) L D2) (hl:n≤1000000000):
 Calls Tryz.prog 52 #[.slice a1 n c1,.slice a2 n c2] w fun e w'=>e=.returned (.bool true)∧Chg (fun _=>False) w w':=by
 have H1:=zaa (fun i b hb=>h1.at hn i b hb)
 have H2:=zaa (fun i b hb=>h2.at hn i b hb)
 have HN:=zaa hn
 clear h1 h2 hn
 go_enter Tryz.func52,Tryz.ntmps52
 go_wp2_with fail
 generalize hnn:((n:Int) !=(n:Int))=bb at*
 go_loopw [5] (fun s5 wr=>∃i:Nat,s5=.int .i64 (i:Int)∧i≤n∧Hid (Chg (fun _=>False) w wr)) (fun s5 _=>n - (intOf s5).toNat)
 case atStart=>exact ⟨0,rfl,by omega,zaa (Chg.refl _ _)⟩
 case round=>
  rename World=>wr
  obtain ⟨i,rfl,hi,hC⟩:=hrel
  by_cases hlt:i<n
  · have hltz:(i:Int)<(n:Int):=by omega
    obtain ⟨b,hb⟩:∃b,L[i]?=some b:=⟨L[i]'(by have:=HN.out;omega),by simp⟩
    obtain ⟨g1,d1,e1,rfl,q1⟩:=H1.out i b hb
    obtain ⟨g2,d2,e2,rfl,q2⟩:=H2.out i b hb
    obtain ⟨k1,k2⟩:=q1 (fun _=>False) wr hC.out (fun _ _ h=>h) (fun _ _ h=>h)
    obtain ⟨k3,k4⟩:=q2 (fun _=>False) wr hC.out (fun _ _ h=>h) (fun _ _ h=>h)
    obtain ⟨m,hm⟩:∃m,b.length=m:=⟨_,rfl⟩
    rw [hm] at k1 k2 k3 k4
    have hc1:∀q,(convert 84 9 (.slice d1 m e1)).run Tryz.prog (wr.drewN q)=.ok (.string (strOfNums b)) (wr.drewN q):=fun q=>zav 84 5 9 Tryz.underlying84 Tryz.underlying5 Tryz.underlying9 (k2.later (zah (Below.refl _ _) q))
    have hc2:∀q,(convert 84 9 (.slice d2 m e2)).run Tryz.prog (wr.drewN q)=.ok (.string (strOfNums b)) (wr.drewN q):=fun q=>zav 84 5 9 Tryz.underlying84 Tryz.underlying5 Tryz.underlying9 (k4.later (zah (Below.refl _ _) q))
    generalize strOfNums b=sb at*
    clear hb hm q1 q2 k2 k4
    go_wp2_with fail
    go_quiet (fail)
    go_wp2
    refine ⟨⟨i+1,by rw [Int.natCast_add];rfl,by omega,zaa (hC.out.trans (Chg.drewN (fun _=>False) wr nq) (fun _ _ e=>e))⟩,?_⟩
    simp [intOf]
    omega
  have hltz:¬(i:Int)<(n:Int):=by omega
  go_wp2
  go_ret
  exact ⟨rfl,hC.out⟩
theorem zdj {l:List Sm} {i:Nat} {x:Sm} (h:l[i]?=some x):l.take i++[x]=l.take (i+1):=by
 rw [List.take_add_one,h];rfl
theorem Ss.bel {w w':World} {ad:Option Addr} {l:List Sm} {b:Nat} (h:Ss w ad l) (hb:Below b w w') (hlt:∀x,ad=some x→l≠[]→x.block<b):Ss w' ad l:=by
 refine ⟨h.sz,fun h0=>?_⟩
 obtain ⟨g,off,e,hg,hc⟩:=h.at' h0
 have hgb:g<b:=hlt _ e h0
 refine ⟨g,off,e,Nat.lt_of_lt_of_le hg hb.size,fun i x hx=>?_⟩
 rw [hb.cell (p:=⟨g,off+i*2,none⟩) hgb,hb.cell (p:=⟨g,off+i*2+1,none⟩) hgb]
 exact hc i x hx
def nI (L:List Bool):List Int:=L.map (fun b=>(b.toNat:Int))
def bI (L:List Bool):List Value:=zae (nI L)
theorem bI_append (L M:List Bool):bI (L++M)=bI L++bI M:=by unfold bI nI;rw [List.map_append,za2]
theorem bI_one (b:Bool):bI [b]=[.int .u8 (b.toNat:Int)]:=by cases b <;> rfl
theorem wpList_pushB (w:World) {ops:Array Oper} {rest:List Oper} {o:Oper} {a:Act} {Q:Exit→Act→World→Prop} (hgd:o.guard=none) (s x:Operand)
 (ho:o.op=.call { callee:=.builtin .append,args:=#[s,x],argTypes:=#[84,84] }) (base:Nat) (v:Value) (n:Nat) (xs:List Value) (hs:a.eval s=v) (w0:World) (hown:w0.ownsRow base 5 1 v n xs) (y:Int)
 (hw:w=w0.alloc (.cells #[.int .u8 y] 5)) (hx:a.eval x=.slice (some ⟨w0.heap.size,0,none⟩) 1 1) (hn:n≤10000000000) (hbase:base≤w0.heap.size)
 (h:∀g' c' w',w'.ownsRow base 5 1 (.slice (some ⟨g',0,none⟩) (n+1) c') (n+1) (xs++[.int .u8 y])→Below base w0 w'→wpList Tryz.prog ops Q rest (a.put o.dst (.slice (some ⟨g',0,none⟩) (n+1) c')) w'):wpList Tryz.prog ops Q (o :: rest) a w:=by
 subst hw
 obtain ⟨i0,hi0,hz0,hz1,hz2⟩:=info_parts ze6
 refine zaw _ hgd s x 84 ho 5 i0 (.int .u8 0) 1 Tryz.underlying84 hi0 hz0 hz1 hz2 rfl base v n xs hs (hown.alloc _) ⟨w0.heap.size,0,none⟩ (.int .u8 y) hx (by simp) rfl (by unfold maxLen;omega) (by omega) (by simp;omega) ?_
 intro g' c' w' h1 h2
 exact h g' c' w' h1 (h2.chg.1.below hbase (fun q hq=>(hown.lt q hq).1))
theorem zgk (x n k:Nat) (h:k<n):(low x n).take (k+1)=(low x n).take k++[x.testBit (n - 1 - k)]:=by
 have hl:k<(low x n).length:=by rw [zaq];exact h
 rw [List.take_add_one]
 congr 1
 have e:=zcv x n k
 rw [List.getD_eq_getElem?_getD,List.getElem?_eq_getElem hl] at e
 simp only [Option.getD_some,decide_eq_true h,Bool.true_and] at e
 rw [List.getElem?_eq_getElem hl,e]
 rfl
theorem bit_of (x i:Nat) (hx:x<18446744073709551616):bits .and .u64 ((x / 2 ^ i:Nat):Int) 1=((x.testBit i).toNat:Int):=by
 have h:=bits_and_u64_nat (x / 2 ^ i) 1 (by have:=Nat.div_le_self x (2 ^ i);omega) (by omega)
 rw [show ((1:Nat):Int)=1 from rfl] at h
 rw [h,Nat.and_one_is_mod,Nat.toNat_testBit]
theorem shr_of (x i:Nat) (hi:i≤63):Op.shift .shr .u64 (x:Int) .i64 (i:Int)=pure (.int .u64 ((x / 2 ^ i:Nat):Int)):=by
 rw [shift_shr .u64 .i64 _ _ (by omega) (by simp [IntKind.bits];omega),Int.toNat_natCast]
 congr 2
def OW (w:World) (base:Nat) (v:Value) (L:List Bool):Prop:=(∃ad c,v=.slice ad L.length c)∧w.ownsRow base 5 1 v L.length (bI L)
def PtD (w:World) (base:Nat) (M:List Bool) (e:Ending) (w':World):Prop:=∃v,e=.returned v∧OW w' base v M∧Below base w w'
theorem putD (w:World) (base:Nat) (v:Value) (L:List Bool) (x n:Nat) (h:OW w base v L) (hb:base≤w.heap.size) (hx:x<18446744073709551616) (hn:n≤64) (hL:L.length≤1000000000):
 Calls Tryz.prog 131 #[v,.int .u64 (x:Int),.int .i64 (n:Int)] w (PtD w base (L++low x n)):=by
 obtain ⟨⟨ad,c,rfl⟩,hO⟩:=h
 have HO:=zaa hO
 clear hO
 go_enter Tryz.func131,Tryz.ntmps131
 go_wp2_with fail
 go_loopw [0,7] (fun v0 v7 wr=>∃(k:Nat) (ad':Option Addr) (c':Nat),k≤n∧v7=.int .i64 ((n:Int) - 1 - (k:Int))∧v0=.slice ad' (L.length+k) c'∧Hid (wr.ownsRow base 5 1 (.slice ad' (L.length+k) c') (L.length+k) (bI (L++(low x n).take k)))∧Hid (Below base w wr)) (fun _ v7 _=>(intOf v7+1).toNat)
 case atStart=>exact ⟨0,ad,c,by omega,by simp,by simp,by simpa using HO,zaa (Below.refl _ _)⟩
 case round=>
  rename World=>wr
  obtain ⟨k,ad',c',hk,rfl,rfl,hO,hB⟩:=hrel
  by_cases hlt:k<n
  · obtain ⟨i,hi⟩:∃i,n - 1 - k=i:=⟨_,rfl⟩
    have hiz:(n:Int) - 1 - (k:Int)=(i:Int):=by omega
    have hge:(0:Int)≤(i:Int):=by omega
    have hi64:i<64:=by omega
    have HT:=zaa (zgk x n k hlt)
    rw [hi] at HT
    have hbit:bits BinOp.and IntKind.u64 ((x:Int) / 2 ^ i) 1=((x.testBit i).toNat:Int):=by
     rw [←bit_of x i hx]
     congr 1
    have hmod:((x.testBit i).toNat:Int)%256=((x.testBit i).toNat:Int):=by cases x.testBit i <;> rfl
    have hsh:=shr_of x i (by omega)
    have hbs:=hB.out.size
    rw [hiz]
    generalize hbb:x.testBit i=bb at*
    go_wp2_with (first
     |(refine wpList_pushB _ rfl (.tmp 14) (.tmp 20) rfl base (.slice ad' (L.length+k) c') (L.length+k) _ rfl wr hO.out (bb.toNat:Int) rfl rfl (by omega) (by omega) ?_
       intro g7 c7 w7 o7 b7
       have O7:=zaa o7
       have B7:=zaa (hB.out.trans b7)
       clear o7 b7))
    refine ⟨⟨k+1,some ⟨g7,0,none⟩,c7,by omega,?_,rfl,?_,B7⟩,?_⟩
    · congr 1
      omega
    · rw [HT.out,←List.append_assoc,bI_append,bI_one]
      exact O7
    simp [intOf]
  obtain rfl:k=n:=by omega
  have hge:¬(0:Int)≤(k:Int) - 1 - (k:Int):=by omega
  have HT:Hid ((low x k).take k=low x k):=zaa (by rw [List.take_of_length_le (by rw [zaq];exact Nat.le_refl _)])
  rw [HT.out] at hO
  have hlen:(L++low x k).length=L.length+k:=by rw [List.length_append,zaq]
  go_wp2
  go_ret
  exact ⟨_,rfl,⟨⟨ad',c',by rw [hlen];rfl⟩,by rw [hlen];exact hO.out⟩,hB.out⟩
theorem withinD (w:World) (n a b:Int) (hn:I64 n) (ha:I64 a) (hb:I64 b):
 Calls Tryz.prog 153 #[.int .i64 n,.int .i64 a,.int .i64 b] w fun e w'=>e=.returned (.bool (decide (a≤n∧n≤b)))∧w'=w:=by
 by_cases h1:a≤n
 · by_cases h2:n≤b
   · rw [decide_eq_true ⟨h1,h2⟩]
     go_enter Tryz.func153,Tryz.ntmps153
     go_wp2
     go_ret
     exact ⟨rfl,rfl⟩
   rw [decide_eq_false (fun h=>h2 h.2)]
   go_enter Tryz.func153,Tryz.ntmps153
   go_wp2
   go_ret
   exact ⟨rfl,rfl⟩
 rw [decide_eq_false (fun h=>h1 h.1)]
 go_enter Tryz.func153,Tryz.ntmps153
 go_wp2
 go_ret
 exact ⟨rfl,rfl⟩
theorem timeD (w:World) (base:Nat) (v:Value) (L:List Bool) (d:Int) (h:OW w base v L) (hb:base≤w.heap.size) (hd:I64 d) (hL:L.length≤900000000):
 Calls Tryz.prog 132 #[v,.int .i64 d] w (PtD w base (L++drB d)):=by
 have HO:=zaa h
 have hul:=un_lt d
 have hu:IntKind.u64.wrap d=(un d:Int):=by rw [u64w];unfold un;omega
 have hdb:=hd
 unfold I64 at hdb
 have HW:=zaa (fun (w1:World) (a b:Int) (ha:I64 a) (hb:I64 b)=>withinD w1 d a b hd ha hb)
 clear hd h
 by_cases h0:d=0
 · subst h0
   have HP:=zaa (putD w base v L 0 1 HO.out hb (by omega) (by omega) (by omega))
   rw [show low 0 1=[false] from by decide] at HP
   rw [show drB 0=[false] from rfl]
   go_enter Tryz.func132,Tryz.ntmps132
   go_wp2_with fail
   refine HP.out.mono ?_
   rintro e w1 ⟨v1,rfl,o1,b1⟩
   go_wp2
   go_ret
   exact ⟨_,rfl,o1,b1⟩
 have TWO:Hid (∀(x n m:Nat),x<18446744073709551616→n≤4→m≤64→∀w1 v1,OW w1 base v1 (L++low x n)→Below base w w1→Calls Tryz.prog 131 #[v1,.int .u64 (un d:Int),.int .i64 (m:Int)] w1 (PtD w1 base (L++low x n++low (un d) m))):=zaa (fun x n m hx hn hm w1 v1 o1 b1=>putD w1 base v1 _ (un d) m o1 (Nat.le_trans hb b1.size) hul hm (by rw [List.length_append,zaq];omega))
 have ONE:Hid (∀(x n:Nat),x<18446744073709551616→n≤4→Calls Tryz.prog 131 #[v,.int .u64 (x:Int),.int .i64 (n:Int)] w (PtD w base (L++low x n))):=zaa (fun x n hx hn=>putD w base v L x n HO.out hb hx (by omega) (by omega))
 go_enter Tryz.func132,Tryz.ntmps132
 go_wp2_with fail
 refine (HW.out w (-64) 63 (by unfold I64;omega) (by unfold I64;omega)).mono ?_
 rintro e w1 ⟨rfl,rfl⟩
 by_cases h1:-64≤d∧d≤63
 · rw [decide_eq_true h1]
   have HE:Hid (drB d=low 2 2++low (un d) 7):=zaa (by unfold drB;rw [if_neg h0,if_pos h1];rfl)
   go_wp2_with fail
   refine (ONE.out 2 2 (by omega) (by omega)).mono ?_
   rintro e w2 ⟨v2,rfl,o2,b2⟩
   have O2:=zaa o2
   have B2:=zaa b2
   clear o2 b2
   go_wp2_with fail
   refine (TWO.out 2 2 7 (by omega) (by omega) (by omega) w2 v2 O2.out B2.out).mono ?_
   rintro e w3 ⟨v3,rfl,o3,b3⟩
   have O3:=zaa o3
   have B3:=zaa (B2.out.trans b3)
   clear o3 b3
   go_wp2
   go_ret
   exact ⟨_,rfl,by rw [HE.out,←List.append_assoc];exact O3.out,B3.out⟩
 rw [decide_eq_false h1]
 have H1:=zaa h1
 clear h1
 go_wp2_with fail
 refine (HW.out _ (-256) 255 (by unfold I64;omega) (by unfold I64;omega)).mono ?_
 rintro e wa ⟨rfl,rfl⟩
 by_cases h2:-256≤d∧d≤255
 · rw [decide_eq_true h2]
   have HE:Hid (drB d=low 6 3++low (un d) 9):=zaa (by unfold drB;rw [if_neg h0,if_neg H1.out,if_pos h2];rfl)
   go_wp2_with fail
   refine (ONE.out 6 3 (by omega) (by omega)).mono ?_
   rintro e w2 ⟨v2,rfl,o2,b2⟩
   have O2:=zaa o2
   have B2:=zaa b2
   clear o2 b2
   go_wp2_with fail
   refine (TWO.out 6 3 9 (by omega) (by omega) (by omega) w2 v2 O2.out B2.out).mono ?_
   rintro e w3 ⟨v3,rfl,o3,b3⟩
   have O3:=zaa o3
   have B3:=zaa (B2.out.trans b3)
   clear o3 b3
   go_wp2
   go_ret
   exact ⟨_,rfl,by rw [HE.out,←List.append_assoc];exact O3.out,B3.out⟩
 rw [decide_eq_false h2]
 have H2:=zaa h2
 clear h2
 go_wp2_with fail
 refine (HW.out _ (-2048) 2047 (by unfold I64;omega) (by unfold I64;omega)).mono ?_
 rintro e wb ⟨rfl,rfl⟩
 by_cases h3:-2048≤d∧d≤2047
 · rw [decide_eq_true h3]
   have HE:Hid (drB d=low 14 4++low (un d) 12):=zaa (by unfold drB;rw [if_neg h0,if_neg H1.out,if_neg H2.out,if_pos h3];rfl)
   go_wp2_with fail
   refine (ONE.out 14 4 (by omega) (by omega)).mono ?_
   rintro e w2 ⟨v2,rfl,o2,b2⟩
   have O2:=zaa o2
   have B2:=zaa b2
   clear o2 b2
   go_wp2_with fail
   refine (TWO.out 14 4 12 (by omega) (by omega) (by omega) w2 v2 O2.out B2.out).mono ?_
   rintro e w3 ⟨v3,rfl,o3,b3⟩
   have O3:=zaa o3
   have B3:=zaa (B2.out.trans b3)
   clear o3 b3
   go_wp2
   go_ret
   exact ⟨_,rfl,by rw [HE.out,←List.append_assoc];exact O3.out,B3.out⟩
 rw [decide_eq_false h3]
 have H3:=zaa h3
 clear h3
 have HE:Hid (drB d=low 15 4++low (un d) 64):=zaa (by unfold drB;rw [if_neg h0,if_neg H1.out,if_neg H2.out,if_neg H3.out];rfl)
 go_wp2_with fail
 refine (ONE.out 15 4 (by omega) (by omega)).mono ?_
 rintro e w2 ⟨v2,rfl,o2,b2⟩
 have O2:=zaa o2
 have B2:=zaa b2
 clear o2 b2
 go_wp2_with fail
 refine (TWO.out 15 4 64 (by omega) (by omega) (by omega) w2 v2 O2.out B2.out).mono ?_
 rintro e w3 ⟨v3,rfl,o3,b3⟩
 have O3:=zaa o3
 have B3:=zaa (B2.out.trans b3)
 clear o3 b3
 go_wp2
 go_ret
 exact ⟨_,rfl,by rw [HE.out,←List.append_assoc];exact O3.out,B3.out⟩
theorem ahd_find {x a:Nat} (hx:x<18446744073709551616) (h0:0<x) (ha:a≤ahd x):x / 2 ^ (63 - a)=0↔a≠ahd x:=by
 obtain ⟨s1,s2,_⟩:=zcu hx h0
 obtain ⟨h1,h2,h3⟩:=zfe 64 x (by omega)
 obtain ⟨h4,h5⟩:=h2 h0
 have hb:blen 64 x=64 - ahd x:=by unfold ahd;omega
 rw [hb] at h1 h5
 constructor
 · intro e hh
   subst hh
   have:=Nat.div_eq_zero_iff.1 e
   have h6:2 ^ (63 - ahd x)=2 ^ (64 - ahd x - 1):=by congr 1;omega
   have hp:=Nat.two_pow_pos (63 - ahd x)
   omega
 intro hh
 apply Nat.div_eq_of_lt
 refine Nat.lt_of_lt_of_le h1 (Nat.pow_le_pow_right (by omega) (by omega))
theorem bhd_odd {x:Nat} (hx:x<18446744073709551616) (h0:0<x):∃m,x=2 ^ bhd x*(2*m+1):=by
 obtain ⟨m,hm,hc⟩:=Lib.ctzFrom_spec 64 x (by omega) (by omega)
 have hb:bhd x=Lib.ctzFrom 64 x:=by unfold bhd Lib.ctz;first|rfl|(rw [if_neg (by omega)])|simp
 rw [hb]
 exact ⟨m,hm⟩
theorem bhd_find {x b:Nat} (hx:x<18446744073709551616) (h0:0<x) (hb:b≤bhd x):x / 2 ^ b%2=0↔b≠bhd x:=by
 obtain ⟨m,hm⟩:=bhd_odd hx h0
 constructor
 · intro e hh
   subst hh
   have h2:x / 2 ^ bhd x=2*m+1:=by
    have:=Nat.mul_div_cancel_left (2*m+1) (Nat.two_pow_pos (bhd x))
    rwa [←hm] at this
   omega
 intro hh
 have h3:bhd x=b+1+(bhd x - b - 1):=by omega
 have h2:x / 2 ^ b=2*(2 ^ (bhd x - b - 1)*(2*m+1)):=by
  have h4:x=2 ^ b*(2*(2 ^ (bhd x - b - 1)*(2*m+1))):=by
   have e1:2 ^ bhd x=2 ^ b*2*2 ^ (bhd x - b - 1):=by
    rw [←Nat.pow_succ,←Nat.pow_add];congr 1
   calc x=2 ^ bhd x*(2*m+1):=hm
    _=2 ^ b*2*2 ^ (bhd x - b - 1)*(2*m+1):=by rw [←e1]
    _=_:=by simp only [Nat.mul_assoc]
  have:=Nat.mul_div_cancel_left (2*(2 ^ (bhd x - b - 1)*(2*m+1))) (Nat.two_pow_pos b)
  rwa [←h4] at this
 rw [h2]
 omega
theorem zgn (x q:Nat):(x:Int) / 2 ^ q=((x / 2 ^ q:Nat):Int):=by rw [Int.natCast_ediv,Int.natCast_pow];rfl
theorem valueD (w:World) (base:Nat) (v:Value) (L:List Bool) (x:Nat) (h:OW w base v L) (hb:base≤w.heap.size) (hx:x<18446744073709551616) (hL:L.length≤900000000):
 Calls Tryz.prog 133 #[v,.int .u64 (x:Int)] w (PtD w base (L++flB x)):=by
 have HO:=zaa h
 clear h
 by_cases h0:x=0
 · subst h0
   have HP:=zaa (putD w base v L 0 1 HO.out hb (by omega) (by omega) (by omega))
   rw [show low 0 1=[false] from by decide] at HP
   rw [show flB 0=[false] from rfl]
   go_enter Tryz.func133,Tryz.ntmps133
   go_wp2_with fail
   refine HP.out.mono ?_
   rintro e w1 ⟨v1,rfl,o1,b1⟩
   go_wp2
   go_ret
   exact ⟨_,rfl,o1,b1⟩
 have hp:0<x:=by omega
 obtain ⟨s1,s2,s3,s4,s5⟩:=zcu hx hp
 have HA:=zaa (fun a (ha:a≤ahd x)=>ahd_find hx hp ha)
 have HB:=zaa (fun b (hb:b≤bhd x)=>bhd_find hx hp hb)
 have HE:Hid (flB x=low 1 1++low (ahd x) 6++low (siz x - 1) 6++low (x / 2 ^ bhd x) (siz x)):=zaa (by unfold flB;rw [if_neg h0];rfl)
 have hdiv:x / 2 ^ bhd x<18446744073709551616:=Nat.lt_of_le_of_lt (Nat.div_le_self _ _) hx
 have PUT:Hid (∀w1 v1 M (y n:Nat),OW w1 base v1 (L++M)→M.length≤100→Below base w w1→y<18446744073709551616→n≤64→Calls Tryz.prog 131 #[v1,.int .u64 (y:Int),.int .i64 (n:Int)] w1 (PtD w1 base (L++M++low y n))):=zaa (fun w1 v1 M y n o1 hM b1 hy hn=>putD w1 base v1 _ y n o1 (Nat.le_trans hb b1.size) hy hn (by rw [List.length_append];omega))
 have h0z:¬(x:Int)=0:=by omega
 generalize hah:ahd x=A at*
 generalize hbh:bhd x=Bh at*
 generalize hsi:siz x=Z at*
 clear hp h0
 go_enter Tryz.func133,Tryz.ntmps133
 go_wp2_with fail
 go_loopw [5] (fun v5 wx=>w=wx∧∃a:Nat,v5=.int .i64 (a:Int)∧a≤A) (fun v5 _=>A - (intOf v5).toNat)
 case atStart=>exact ⟨rfl,0,rfl,by omega⟩
 case round=>
  rename World=>wx
  obtain ⟨rfl,a,rfl,ha⟩:=hrel
  have hf:=HA.out a ha
  have hz:(63:Int) - (a:Int)=((63 - a:Nat):Int):=by omega
  generalize h63:63 - a=q at*
  have hdv:(x:Int) / 2 ^ q=((x / 2 ^ q:Nat):Int):=zgn x q
  have hq:q≤63:=by omega
  by_cases hlt:a=A
  · subst hlt
    have hne:¬x / 2 ^ q=0:=fun e=>(hf.1 e) rfl
    have hne2:¬(x:Int) / 2 ^ q=0:=by rw [hdv];omega
    clear hdv hne hf HA
    go_wp2_with fail
    clear hne2
    generalize ((x:Int) / 2 ^ q==0)=bq at*
    go_loopw [6] (fun v6 wx=>w=wx∧∃b:Nat,v6=.int .i64 (b:Int)∧b≤Bh) (fun v6 _=>Bh - (intOf v6).toNat)
    case atStart=>exact ⟨rfl,0,rfl,by omega⟩
    case round=>
     rename World=>wy
     obtain ⟨rfl,b,rfl,hbb⟩:=hrel
     have hf:=HB.out b hbb
     have hdv:(x:Int) / 2 ^ b=((x / 2 ^ b:Nat):Int):=zgn x b
     have hb63:b≤63:=by omega
     have hbit:bits BinOp.and IntKind.u64 ((x:Int) / 2 ^ b) 1=((x / 2 ^ b%2:Nat):Int):=by
      have h:=bits_and_u64_nat (x / 2 ^ b) 1 (by have:=Nat.div_le_self x (2 ^ b);omega) (by omega)
      rw [show ((1:Nat):Int)=1 from rfl,Nat.and_one_is_mod] at h
      rw [hdv]
      exact h
     clear hdv
     by_cases hlt:b=Bh
     · subst hlt
       have hne:¬((x / 2 ^ b%2:Nat):Int)=0:=by have:=mt hf.1 (fun h=>h rfl);omega
       have hne':¬bits BinOp.and IntKind.u64 ((x:Int) / 2 ^ b) 1=0:=by rw [hbit];exact hne
       clear hbit hne hf HB
       have hz1:(64:Int) - (a:Int) - (b:Int)=(Z:Int):=by omega
       have hz2:(Z:Int) - 1=((Z - 1:Nat):Int):=by omega
       go_wp2_with fail
       refine (PUT.out w v [] 1 1 (by simpa using HO.out) (by simp) (Below.refl _ _) (by omega) (by omega)).mono ?_
       rintro e w1 ⟨v1,rfl,o1,b1⟩
       have O1:Hid (OW w1 base v1 (L++low 1 1)):=zaa (by simpa using o1)
       have B1:=zaa b1
       clear o1 b1 hne'
       go_wp2_with fail
       refine (PUT.out w1 v1 (low 1 1) a 6 O1.out (by simp [zaq]) B1.out (by omega) (by omega)).mono ?_
       rintro e w2 ⟨v2,rfl,o2,b2⟩
       have O2:Hid (OW w2 base v2 (L++(low 1 1++low a 6))):=zaa (by simpa using o2)
       have B2:=zaa (B1.out.trans b2)
       clear o2 b2
       go_wp2_with fail
       refine (PUT.out w2 v2 (low 1 1++low a 6) (Z - 1) 6 O2.out (by simp [zaq]) B2.out (by omega) (by omega)).mono ?_
       rintro e w3 ⟨v3,rfl,o3,b3⟩
       have O3:Hid (OW w3 base v3 (L++(low 1 1++low a 6++low (Z - 1) 6))):=zaa (by simpa using o3)
       have B3:=zaa (B2.out.trans b3)
       clear o3 b3
       go_wp2_with fail
       rw [zgn x b]
       refine (PUT.out w3 v3 (low 1 1++low a 6++low (Z - 1) 6) (x / 2 ^ b) Z O3.out (by simp [zaq]) B3.out hdiv (by omega)).mono ?_
       rintro e w4 ⟨v4,rfl,o4,b4⟩
       have O4:Hid (OW w4 base v4 (L++flB x)):=zaa (by rw [HE.out];simpa using o4)
       have B4:=zaa (B3.out.trans b4)
       clear o4 b4
       go_wp2
       go_ret
       exact ⟨_,rfl,O4.out,B4.out⟩
     have he:x / 2 ^ b%2=0:=hf.2 hlt
     rw [he] at hbit
     have hb0:bits BinOp.and IntKind.u64 ((x:Int) / 2 ^ b) 1=0:=hbit
     clear hbit
     go_wp2_with fail
     exact ⟨⟨by first|rfl|trivial,b+1,by rw [Int.natCast_add];rfl,by omega⟩,by simp [intOf];omega⟩
  have he:x / 2 ^ q=0:=hf.2 hlt
  have he2:(x:Int) / 2 ^ q=0:=by rw [hdv,he];rfl
  clear hdv he hf
  go_wp2_with fail
  exact ⟨⟨by first|rfl|trivial,a+1,by rw [Int.natCast_add];rfl,by omega⟩,by simp [intOf];omega⟩
theorem tl_last {l:List Sm} {i:Nat} {y:Sm} (h:l[i]?=some y):(tl (l.take (i+1))).t=y.t∧(tl (l.take (i+1))).v=y.v:=by
 rw [←zdj h,tl_on]
 unfold onT
 split <;> exact ⟨rfl,rfl⟩
theorem tl_step {l:List Sm} {i:Nat} {x y:Sm} (h:l[i]?=some y) (hx:l[i+1]?=some x):
 rowB (l.take (i+1+1))=rowB (l.take (i+1))++drB (wr (wr (x.t - y.t) - (tl (l.take (i+1))).st))++flB (x.v ^^^ y.v)∧(tl (l.take (i+1+1))).st=wr (x.t - y.t):=by
 obtain ⟨h1,h2⟩:=tl_last h
 have hl:(l.take (i+1)).length=i+1:=by
  have:=(List.getElem?_eq_some_iff.1 h).1
  rw [List.length_take]
  omega
 rw [←zdj hx,ze1,tl_on]
 unfold onB onT
 rw [hl,if_neg (by omega),if_neg (by omega)]
 unfold Tr.drift Tr.flips Tr.next
 rw [h1,h2]
 exact ⟨by rw [List.append_assoc],rfl⟩
theorem OW.later {w w':World} {base:Nat} {v:Value} {L:List Bool} (h:OW w base v L) (hb:Below w.heap.size w w'):OW w' base v L:=⟨h.1,owl h.2 hb⟩
structure DI3 (w wx:World) (v:Value) (l:List Sm) (i:Nat):Prop where
 ow:OW wx w.heap.size v (rowB (l.take i))
 bel:Below w.heap.size w wx
theorem bitsD (w:World) (ad:Option Addr) (n c:Nat) (l:List Sm) (h:Ss w ad l) (hn:l.length=n) (hn2:n≤1000000):
 Calls Tryz.prog 113 #[.slice ad n c] w (PtD w w.heap.size (rowB l)):=by
 have HS:=zaa h
 have HN:=zaa hn
 have hblk:∀x,ad=some x→l≠[]→x.block<w.heap.size:=by
  intro x hx hl
  obtain ⟨g,off,e,hg,_⟩:=h.at' hl
  rw [e] at hx;injection hx with hx;subst hx;exact hg
 have HB0:=zaa hblk
 have HRL:=zaa (fun i=>zf5 (l:=l.take i) (fun y hy=>h.sz y (List.mem_of_mem_take hy)))
 have HOK:=zaa h.sz
 clear h hn hblk
 go_enter Tryz.func113,Tryz.ntmps113
 go_wp2_with fail
 go_loopw [3,4,5,6] (fun v3 v4 v5 v6 wx=>∃(i:Nat) (v:Value),v5=.int .i64 (i:Int)∧i≤n∧v=v3∧v4=.int .i64 (tl (l.take i)).st∧Hid (DI3 w wx v l i)) (fun _ _ v5 _ _=>n - (intOf v5).toNat)
 case atStart=>exact ⟨0,_,rfl,by omega,rfl,rfl,zaa ⟨⟨⟨none,0,rfl⟩,World.ownsRow_nil _ _ _ _⟩,Below.refl _ _⟩⟩
 case round=>
  rename World=>wx
  obtain ⟨i,v3,rfl,hi,rfl,rfl,hD⟩:=hrel
  by_cases hlt:i<n
  · have hltz:(i:Int)<(n:Int):=by omega
    have hbs:=hD.out.bel.size
    have hrl:(rowB (l.take i)).length≤145*1000000:=by
     have:=HRL.out i
     rw [List.length_take] at this
     omega
    obtain ⟨b0,o0,x,e0,hb0,hx,_,d0,d1,okx⟩:=(HS.out.bel hD.out.bel HB0.out).get (i:=i) (by rw [HN.out];exact hlt)
    subst e0
    have hbw:b0<w.heap.size:=HB0.out ⟨b0,o0,none⟩ rfl (fun e=>by rw [e] at hx;simp at hx)
    by_cases hz:i=0
    · subst hz
      have hu:IntKind.u64.wrap x.t=(un x.t:Int):=by rw [u64w];unfold un;omega
      have hun:=un_lt x.t
      have hxv:=okx.v
      have hxt:=okx.t
      unfold I64 at hxt
      have d0':wx.cell? ⟨b0,o0,none⟩=some (.int .i64 x.t):=by simpa using d0
      have d1':wx.cell? ⟨b0,o0+1,none⟩=some (.int .u64 (x.v:Int)):=by simpa using d1
      have HT1:Hid (rowB (l.take 1)=low (un x.t) 64++low x.v 64∧(tl (l.take 1)).st=0):=zaa (by rw [←zdj hx];simp [rowB,moB,fiB,tl,trE,tr0])
      have HO0:Hid (OW wx w.heap.size v3 []):=zaa (by have:=hD.out.ow;simpa [rowB] using this)
      have P1:=zaa (putD wx w.heap.size v3 [] (un x.t) 64 HO0.out hbs hun (by omega) (by simp))
      clear d0 d1
      go_wp2_with fail
      refine P1.out.mono ?_
      rintro e w1 ⟨v1,rfl,o1,b1⟩
      have O1:=zaa o1
      have B1:=zaa (hD.out.bel.trans b1)
      have e1:w1.cell? ⟨b0,o0+1,none⟩=some (.int .u64 (x.v:Int)):=by rw [b1.cell (p:=⟨b0,o0+1,none⟩) hbw];exact d1'
      clear o1 b1
      have P2:=zaa (putD w1 w.heap.size v1 _ x.v 64 O1.out B1.out.size hxv (by omega) (by simp [zaq]))
      go_wp2_with fail
      refine P2.out.mono ?_
      rintro e w2 ⟨v2,rfl,o2,b2⟩
      have D2:Hid (DI3 w w2 v2 l 1):=zaa ⟨by rw [HT1.out.1];simpa using o2,B1.out.trans b2⟩
      clear o2 b2
      go_wp2_with fail
      exact ⟨⟨0+1,v2,rfl,by omega,rfl,by rw [HT1.out.2];rfl,D2⟩,by simp [intOf];omega⟩
    obtain ⟨j,rfl⟩:∃j,i=j+1:=⟨i - 1,by omega⟩
    obtain ⟨b9,o9,y,e9,_,hy,_,f0,f1,oky⟩:=(HS.out.bel hD.out.bel HB0.out).get (i:=j) (by rw [HN.out];omega)
    injection e9 with e9
    injection e9 with e9 e10
    subst e9 e10
    have HST:=zaa (tl_step hy hx)
    have hst:I64 (tl (l.take (j+1))).st:=(tl_ok (fun z hz=>HOK.out z (List.mem_of_mem_take hz))).s
    have hxt:=okx.t
    have hyt:=oky.t
    have hxv:=okx.v
    have hyv:=oky.v
    have hxor:=bits_xor_u64_nat x.v y.v hxv hyv
    have hW1:=i64w (x.t - y.t)
    generalize hst':(tl (l.take (j+1))).st=st at*
    have hW2:=i64w (wr (x.t - y.t) - st)
    have hdr:I64 (wr (wr (x.t - y.t) - st)):=zbv _
    have hee:I64 (wr (x.t - y.t)):=zbv _
    have hff:x.v ^^^ y.v<18446744073709551616:=xor_lt hxv hyv
    generalize wr (wr (x.t - y.t) - st)=dr at*
    generalize wr (x.t - y.t)=ee at*
    generalize x.v ^^^ y.v=ff at*
    have hjz:((j+1:Nat):Int) - 1=(j:Int):=by omega
    have hjne:¬((j+1:Nat):Int)=0:=by omega
    have hjlt:(j:Int)<(n:Int):=by omega
    have hj1:(j:Int)+1<(n:Int):=by omega
    have hj0:(0:Int)≤(j:Int)+1:=by omega
    have hjn:j<n:=by omega
    have hwj:IntKind.i64.wrap (j:Int)=(j:Int):=zds (by omega) (by omega)
    have P1:=zaa (fun wy (hb:Below wx.heap.size wx wy)=>timeD wy w.heap.size v3 (rowB (l.take (j+1))) dr (hD.out.ow.later hb) (Nat.le_trans hbs hb.size) hdr (by omega))
    have hdl:=drB_len dr
    unfold I64 at hst hxt hyt hdr hee
    clear okx oky hx hy
    have P2:=zaa (fun wy v2 (ho:OW wy w.heap.size v2 (rowB (l.take (j+1))++drB dr)) (hb:w.heap.size≤wy.heap.size)=>valueD wy w.heap.size v2 _ ff ho hb hff (by rw [List.length_append];omega))
    go_wp2_with fail
    go_quiet (fail)
    go_wp2_with fail
    refine (P1.out _ (zah (Below.refl _ _) _)).mono ?_
    rintro e w2 ⟨v2,rfl,o2,b2⟩
    have O2:=zaa o2
    have B2:Hid (Below w.heap.size w w2):=zaa ((zah hD.out.bel _).trans b2)
    have hjx:w2.cell? ⟨b0,o0+(j+1)*2+1,none⟩=some (.int .u64 (x.v:Int)):=by rw [(b2.cell (p:=⟨b0,o0+(j+1)*2+1,none⟩) hbw)];exact d1
    have hjy:w2.cell? ⟨b0,o0+j*2+1,none⟩=some (.int .u64 (y.v:Int)):=by rw [(b2.cell (p:=⟨b0,o0+j*2+1,none⟩) hbw)];exact f1
    clear o2 b2 d0 d1 f0 f1 P1 hD
    have PV:=zaa (P2.out _ v2 (O2.out.later ((Below.refl _ _).drew)) (by have:=B2.out.size;simpa using this))
    clear P2
    go_upto_region 11 with fail
    go_cut [3] from 45 to 58 (fun v3 wy=>Hid (DI3 w wy v3 l (j+1+1)))
    case first=>
     go_region_with (refine PV.out.mono ?_;rintro e w4 ⟨v4,rfl,o4,b4⟩)
     all_goals (have D4:Hid (DI3 w w4 v4 l (j+1+1)):=zaa ⟨by rw [HST.out.1];exact o4,(B2.out.drew).trans b4⟩;clear o4 b4;go_wp2_with fail;go_meet;exact D4)
    case rest=>
     have D4:=hcut
     clear PV O2 hjx hjy
     go_wp2_with fail
     exact ⟨⟨j+1+1,_,by rw [Int.natCast_add (j+1)];rfl,by omega,rfl,by rw [HST.out.2],D4⟩,by simp [intOf];omega⟩
  obtain rfl:i=n:=by omega
  have hge:¬(i:Int)<(i:Int):=by omega
  have HLL:Hid (l.take i=l):=zaa (by rw [List.take_of_length_le (by rw [HN.out];exact Nat.le_refl _)])
  have HOW:=zaa hD.out.ow
  rw [HLL.out] at HOW
  go_wp2
  go_ret
  exact ⟨_,rfl,HOW.out,hD.out.bel⟩
theorem shown_r13 (S p lb xb cl cc:Nat) (ac:Option Addr) (I:Nat→World→Prop) (w:World) (a0:Act) (Q:Exit→Act→World→Prop) (hsz:a0.tmps.size=111)
 (s1:a0.tmps.getD 1 undef=.pointer (some ⟨p,0,none⟩))
 (s3:a0.tmps.getD 3 undef=.pointer (some ⟨S,0,none⟩))
 (s4:a0.tmps.getD 4 undef=.int .i64 0)
 (s5:a0.tmps.getD 5 undef=.int .i64 140)
 (s6:a0.tmps.getD 6 undef=.int .i64 0)
 (s7:a0.tmps.getD 7 undef=.int .i64 0)
 (s8:a0.tmps.getD 8 undef=.slice (some ⟨lb,0,none⟩) 1 cl)
 (s9:a0.tmps.getD 9 undef=.pointer (some ⟨xb,0,none⟩))
 (s10:a0.tmps.getD 10 undef=.bool true)
 (s11:a0.tmps.getD 11 undef=.slice ac 1 cc)
 (c0:∀w1,(∃k,k≤13∧I k w1)→w1.cell? ⟨lb,0,none⟩=some (.int .i64 6))
 (c1:∀w1,(∃k,k≤13∧I k w1)→w1.cell? ⟨lb,1,none⟩=some (.int .u64 1))
 (x0:∀w1,(∃k,k≤13∧I k w1)→w1.cell? ⟨xb,0,none⟩=some (.int .i64 6))
 (x1:∀w1,(∃k,k≤13∧I k w1)→w1.cell? ⟨xb,1,none⟩=some (.int .u64 1))
 (h0:I 0 { w with drawn:=w.drawn+1 })
 (hC0:∀w1,I 0 w1→Calls Tryz.prog 13 #[.int .i64 6,.int .u64 1] w1 fun e w2=>e=.returned (.agg #[.int .i64 6,.int .u64 1])∧I 1 w2)
 (hC1:∀w1,I 1 w1→I 2 w1)
 (hC2:∀w1,I 2 w1→I 3 w1)
 (hC3:∀w1,I 3 w1→Calls Tryz.prog 13 #[.int .i64 6,.int .u64 1] w1 fun e w2=>e=.returned (.agg #[.int .i64 6,.int .u64 1])∧I 4 w2)
 (hC4:∀w1,I 4 w1→I 5 w1)
 (hC5:∀w1,I 5 w1→I 6 w1)
 (hC6:∀w1,I 6 w1→Calls Tryz.prog 18 #[.pointer (some ⟨S,0,none⟩),.string { data:=#[97] }] w1 fun e w2=>e=.returned (.int .i64 1)∧I 7 w2)
 (hC7:∀w1,I 7 w1→I 8 w1)
 (hC8:∀w1,I 8 w1→Calls Tryz.prog 19 #[.pointer (some ⟨p,0,none⟩)] w1 fun e w2=>e=.returned (.int .i64 1)∧I 9 w2)
 (hC9:∀w1,I 9 w1→I 10 w1)
 (hC10:∀w1,I 10 w1→Calls Tryz.prog 20 #[.pointer (some ⟨S,0,none⟩),.string { data:=#[97] }] w1 fun e w2=>e=.returned (.int .i64 1)∧I 11 w2)
 (hC11:∀w1,I 11 w1→I 12 w1)
 (hC12:∀w1,I 12 w1→Calls Tryz.prog 19 #[.pointer (some ⟨p,0,none⟩)] w1 fun e w2=>e=.returned (.int .i64 2)∧I 13 w2)
 (hQ:∀(v52 v53 v54 v55 v56 v57 v58 v59 v60 v61 v62 v63 v64 v65 v66 v67 v68 v69 v70 v71 v72 v73 v74 v75 v76 v77 v78 v79 v80 v81 v82 v83 v84 v85 v86 v87 v88 v89 v90 v91 v92 v93 v94 v95 v96 v97 v98 v99 v100 v101 v102 v103 v104 v105 v106 v107 v108 v109 v110:Value) (w2:World),I 13 w2→Q .normal ((((((((((((((((((((((((((((((((((((((((((((((((((((((((((((a0.put (some 52) v52).put (some 53) v53).put (some 54) v54).put (some 55) v55).put (some 56) v56).put (some 57) v57).put (some 58) v58).put (some 59) v59).put (some 60) v60).put (some 61) v61).put (some 62) v62).put (some 63) v63).put (some 64) v64).put (some 65) v65).put (some 66) v66).put (some 67) v67).put (some 68) v68).put (some 69) v69).put (some 70) v70).put (some 71) v71).put (some 72) v72).put (some 73) v73).put (some 74) v74).put (some 75) v75).put (some 76) v76).put (some 77) v77).put (some 78) v78).put (some 79) v79).put (some 80) v80).put (some 81) v81).put (some 82) v82).put (some 83) v83).put (some 84) v84).put (some 85) v85).put (some 86) v86).put (some 87) v87).put (some 88) v88).put (some 89) v89).put (some 90) v90).put (some 91) v91).put (some 92) v92).put (some 93) v93).put (some 94) v94).put (some 95) v95).put (some 96) v96).put (some 97) v97).put (some 98) v98).put (some 99) v99).put (some 100) v100).put (some 101) v101).put (some 102) v102).put (some 103) v103).put (some 104) v104).put (some 105) v105).put (some 106) v106).put (some 107) v107).put (some 108) v108).put (some 109) v109).put (some 110) v110).put (some 0) (.bool true)) w2):
 Code.wp Tryz.prog ((Tryz.f4.body.bind (zag 13)).getD .skip) Q a0 w:=by
 conv=>arg 2;whnf
 refine zbj (fun i=>([.int .i64 0,.bool true,.bool true,.int .i64 140,.bool true,.bool true,.bool true,.int .i64 0,.bool true,.bool true,.bool true,.int .i64 0,.bool true,.bool true,.bool true,.slice (some ⟨lb,0,none⟩) 1 cl,.int .i64 1,.bool true,.bool true,.bool true,.slice (some ⟨lb,0,none⟩) 1 cl,.pointer (some ⟨lb,0,none⟩),.agg #[.int .i64 6,.int .u64 1],.agg #[.int .i64 6,.int .u64 1],.bool true,.bool true,.bool true,.bool true,.bool true,.bool true,.agg #[.int .i64 6,.int .u64 1],.agg #[.int .i64 6,.int .u64 1],.bool true,.bool true,.bool true,.slice ac 1 cc,.int .i64 1,.bool true,.bool true,.bool true,.pointer (some ⟨S,0,none⟩),.int .i64 1,.bool true,.bool true,.bool true,.pointer (some ⟨p,0,none⟩),.int .i64 1,.bool true,.bool true,.bool true,.pointer (some ⟨S,0,none⟩),.int .i64 1,.bool true,.bool true,.bool true,.pointer (some ⟨p,0,none⟩),.int .i64 2,.bool true,.bool true,.bool true]:List Value).getD i undef) I (fun j=>([23,26,29,31,34,39,41,44,46,49,51,54,56]:List Nat).getD j 0) 13 (by kernel_rfl) (by kernel_rfl) (by kernel_rfl) (by rw [hsz];kernel_rfl) ?hinj ?hqs ?hwait h0 ?hop ?hcA ?hdone
 case hinj=>
  intro j k hj hk h
  rcases (show j=0∨j=1∨j=2∨j=3∨j=4∨j=5∨j=6∨j=7∨j=8∨j=9∨j=10∨j=11∨j=12 by omega) with rfl|rfl|rfl|rfl|rfl|rfl|rfl|rfl|rfl|rfl|rfl|rfl|rfl <;> rcases (show k=0∨k=1∨k=2∨k=3∨k=4∨k=5∨k=6∨k=7∨k=8∨k=9∨k=10∨k=11∨k=12 by omega) with rfl|rfl|rfl|rfl|rfl|rfl|rfl|rfl|rfl|rfl|rfl|rfl|rfl <;> first|rfl|exact absurd h (by decide)
 case hqs=>
  intro j hj
  rcases (show j=0∨j=1∨j=2∨j=3∨j=4∨j=5∨j=6∨j=7∨j=8∨j=9∨j=10∨j=11∨j=12 by omega) with rfl|rfl|rfl|rfl|rfl|rfl|rfl|rfl|rfl|rfl|rfl|rfl|rfl <;> exact of_decide_eq_true (by kernel_rfl)
 case hwait=>
  intro j hj oB hoB
  rcases (show j=0∨j=1∨j=2∨j=3∨j=4∨j=5∨j=6∨j=7∨j=8∨j=9∨j=10∨j=11 by omega) with rfl|rfl|rfl|rfl|rfl|rfl|rfl|rfl|rfl|rfl|rfl|rfl
  · obtain rfl:=Option.some.inj hoB
    exact ⟨⟨23,.chain⟩,by simp,rfl,rfl⟩
  · obtain rfl:=Option.some.inj hoB
    exact ⟨⟨26,.chain⟩,by simp,rfl,rfl⟩
  · obtain rfl:=Option.some.inj hoB
    exact ⟨⟨29,.chain⟩,by simp,rfl,rfl⟩
  · obtain rfl:=Option.some.inj hoB
    exact ⟨⟨31,.chain⟩,by simp,rfl,rfl⟩
  · obtain rfl:=Option.some.inj hoB
    exact ⟨⟨34,.chain⟩,by simp,rfl,rfl⟩
  · obtain rfl:=Option.some.inj hoB
    exact ⟨⟨39,.chain⟩,by simp,rfl,rfl⟩
  · obtain rfl:=Option.some.inj hoB
    exact ⟨⟨41,.chain⟩,by simp,rfl,rfl⟩
  · obtain rfl:=Option.some.inj hoB
    exact ⟨⟨44,.chain⟩,by simp,rfl,rfl⟩
  · obtain rfl:=Option.some.inj hoB
    exact ⟨⟨46,.chain⟩,by simp,rfl,rfl⟩
  · obtain rfl:=Option.some.inj hoB
    exact ⟨⟨49,.chain⟩,by simp,rfl,rfl⟩
  · obtain rfl:=Option.some.inj hoB
    exact ⟨⟨51,.chain⟩,by simp,rfl,rfl⟩
  obtain rfl:=Option.some.inj hoB
  exact ⟨⟨54,.chain⟩,by simp,rfl,rfl⟩
 case hdone=>
  intro a w1 hI hS hT
  have kl:a.tmps.getD 0 undef=.bool true:=hT 59 _ rfl
  have he:=zam hS
  have hQ2:=hQ (a.tmps.getD 52 undef) (a.tmps.getD 53 undef) (a.tmps.getD 54 undef) (a.tmps.getD 55 undef) (a.tmps.getD 56 undef) (a.tmps.getD 57 undef) (a.tmps.getD 58 undef) (a.tmps.getD 59 undef) (a.tmps.getD 60 undef) (a.tmps.getD 61 undef) (a.tmps.getD 62 undef) (a.tmps.getD 63 undef) (a.tmps.getD 64 undef) (a.tmps.getD 65 undef) (a.tmps.getD 66 undef) (a.tmps.getD 67 undef) (a.tmps.getD 68 undef) (a.tmps.getD 69 undef) (a.tmps.getD 70 undef) (a.tmps.getD 71 undef) (a.tmps.getD 72 undef) (a.tmps.getD 73 undef) (a.tmps.getD 74 undef) (a.tmps.getD 75 undef) (a.tmps.getD 76 undef) (a.tmps.getD 77 undef) (a.tmps.getD 78 undef) (a.tmps.getD 79 undef) (a.tmps.getD 80 undef) (a.tmps.getD 81 undef) (a.tmps.getD 82 undef) (a.tmps.getD 83 undef) (a.tmps.getD 84 undef) (a.tmps.getD 85 undef) (a.tmps.getD 86 undef) (a.tmps.getD 87 undef) (a.tmps.getD 88 undef) (a.tmps.getD 89 undef) (a.tmps.getD 90 undef) (a.tmps.getD 91 undef) (a.tmps.getD 92 undef) (a.tmps.getD 93 undef) (a.tmps.getD 94 undef) (a.tmps.getD 95 undef) (a.tmps.getD 96 undef) (a.tmps.getD 97 undef) (a.tmps.getD 98 undef) (a.tmps.getD 99 undef) (a.tmps.getD 100 undef) (a.tmps.getD 101 undef) (a.tmps.getD 102 undef) (a.tmps.getD 103 undef) (a.tmps.getD 104 undef) (a.tmps.getD 105 undef) (a.tmps.getD 106 undef) (a.tmps.getD 107 undef) (a.tmps.getD 108 undef) (a.tmps.getD 109 undef) (a.tmps.getD 110 undef) w1 hI
  rw [←kl] at hQ2
  rw [he]
  exact hQ2
 case hcA=>
  intro k hk o ho
  rcases (show k=0∨k=1∨k=2∨k=3∨k=4∨k=5∨k=6∨k=7∨k=8∨k=9∨k=10∨k=11∨k=12 by omega) with rfl|rfl|rfl|rfl|rfl|rfl|rfl|rfl|rfl|rfl|rfl|rfl|rfl
  · obtain rfl:=Option.some.inj ho
    intro a w1 hI hS hD
    have d19:a.tmps.getD 71 undef=.bool true:=hD ⟨19,.guard⟩ (by simp) rfl _ rfl
    refine ⟨(zas rfl rfl rfl d19),?_⟩
    refine zaz (f:=13) (args:=#[.int .i64 6,.int .u64 1]) (by simp [execOp,resolve,Act.eval,go_sem]) ?_
    refine (hC0 w1 hI).mono ?_
    rintro e w2 ⟨rfl,h2⟩
    exact ⟨_,rfl,_,rfl,h2,rfl⟩
  · obtain rfl:=Option.some.inj ho
    intro a w1 hI hS hD
    have d25:a.tmps.getD 77 undef=.bool true:=hD ⟨25,.data⟩ (by simp) rfl _ rfl
    exact ⟨rfl,za1 (.bool true) (by simp [execOp,Act.eval,d25,go_sem]) ⟨_,rfl,hC1 w1 hI,rfl⟩⟩
  · obtain rfl:=Option.some.inj ho
    intro a w1 hI hS hD
    have d28:a.tmps.getD 80 undef=.bool true:=hD ⟨28,.data⟩ (by simp) rfl _ rfl
    exact ⟨rfl,za1 (.bool true) (by simp [execOp,Act.eval,d28,go_sem]) ⟨_,rfl,hC2 w1 hI,rfl⟩⟩
  · obtain rfl:=Option.some.inj ho
    intro a w1 hI hS hD
    have d29:a.tmps.getD 81 undef=.bool true:=hD ⟨29,.guard⟩ (by simp) rfl _ rfl
    refine ⟨(zas rfl rfl rfl d29),?_⟩
    refine zaz (f:=13) (args:=#[.int .i64 6,.int .u64 1]) (by simp [execOp,resolve,Act.eval,go_sem]) ?_
    refine (hC3 w1 hI).mono ?_
    rintro e w2 ⟨rfl,h2⟩
    exact ⟨_,rfl,_,rfl,h2,rfl⟩
  · obtain rfl:=Option.some.inj ho
    intro a w1 hI hS hD
    have d33:a.tmps.getD 85 undef=.bool true:=hD ⟨33,.data⟩ (by simp) rfl _ rfl
    exact ⟨rfl,za1 (.bool true) (by simp [execOp,Act.eval,d33,go_sem]) ⟨_,rfl,hC4 w1 hI,rfl⟩⟩
  · obtain rfl:=Option.some.inj ho
    intro a w1 hI hS hD
    have d38:a.tmps.getD 90 undef=.bool true:=hD ⟨38,.data⟩ (by simp) rfl _ rfl
    exact ⟨rfl,za1 (.bool true) (by simp [execOp,Act.eval,d38,go_sem]) ⟨_,rfl,hC5 w1 hI,rfl⟩⟩
  · obtain rfl:=Option.some.inj ho
    intro a w1 hI hS hD
    have d39:a.tmps.getD 91 undef=.bool true:=hD ⟨39,.guard⟩ (by simp) rfl _ rfl
    have d40:a.tmps.getD 92 undef=.pointer (some ⟨S,0,none⟩):=hD ⟨40,.data⟩ (by simp) rfl _ rfl
    refine ⟨(zas rfl rfl rfl d39),?_⟩
    refine zaz (f:=18) (args:=#[.pointer (some ⟨S,0,none⟩),.string { data:=#[97] }]) (by simp [execOp,resolve,Act.eval,d40,go_sem]) ?_
    refine (hC6 w1 hI).mono ?_
    rintro e w2 ⟨rfl,h2⟩
    exact ⟨_,rfl,_,rfl,h2,rfl⟩
  · obtain rfl:=Option.some.inj ho
    intro a w1 hI hS hD
    have d43:a.tmps.getD 95 undef=.bool true:=hD ⟨43,.data⟩ (by simp) rfl _ rfl
    exact ⟨rfl,za1 (.bool true) (by simp [execOp,Act.eval,d43,go_sem]) ⟨_,rfl,hC7 w1 hI,rfl⟩⟩
  · obtain rfl:=Option.some.inj ho
    intro a w1 hI hS hD
    have d44:a.tmps.getD 96 undef=.bool true:=hD ⟨44,.guard⟩ (by simp) rfl _ rfl
    have d45:a.tmps.getD 97 undef=.pointer (some ⟨p,0,none⟩):=hD ⟨45,.data⟩ (by simp) rfl _ rfl
    refine ⟨(zas rfl rfl rfl d44),?_⟩
    refine zaz (f:=19) (args:=#[.pointer (some ⟨p,0,none⟩)]) (by simp [execOp,resolve,Act.eval,d45,go_sem]) ?_
    refine (hC8 w1 hI).mono ?_
    rintro e w2 ⟨rfl,h2⟩
    exact ⟨_,rfl,_,rfl,h2,rfl⟩
  · obtain rfl:=Option.some.inj ho
    intro a w1 hI hS hD
    have d48:a.tmps.getD 100 undef=.bool true:=hD ⟨48,.data⟩ (by simp) rfl _ rfl
    exact ⟨rfl,za1 (.bool true) (by simp [execOp,Act.eval,d48,go_sem]) ⟨_,rfl,hC9 w1 hI,rfl⟩⟩
  · obtain rfl:=Option.some.inj ho
    intro a w1 hI hS hD
    have d49:a.tmps.getD 101 undef=.bool true:=hD ⟨49,.guard⟩ (by simp) rfl _ rfl
    have d50:a.tmps.getD 102 undef=.pointer (some ⟨S,0,none⟩):=hD ⟨50,.data⟩ (by simp) rfl _ rfl
    refine ⟨(zas rfl rfl rfl d49),?_⟩
    refine zaz (f:=20) (args:=#[.pointer (some ⟨S,0,none⟩),.string { data:=#[97] }]) (by simp [execOp,resolve,Act.eval,d50,go_sem]) ?_
    refine (hC10 w1 hI).mono ?_
    rintro e w2 ⟨rfl,h2⟩
    exact ⟨_,rfl,_,rfl,h2,rfl⟩
  · obtain rfl:=Option.some.inj ho
    intro a w1 hI hS hD
    have d53:a.tmps.getD 105 undef=.bool true:=hD ⟨53,.data⟩ (by simp) rfl _ rfl
    exact ⟨rfl,za1 (.bool true) (by simp [execOp,Act.eval,d53,go_sem]) ⟨_,rfl,hC11 w1 hI,rfl⟩⟩
  obtain rfl:=Option.some.inj ho
  intro a w1 hI hS hD
  have d54:a.tmps.getD 106 undef=.bool true:=hD ⟨54,.guard⟩ (by simp) rfl _ rfl
  have d55:a.tmps.getD 107 undef=.pointer (some ⟨p,0,none⟩):=hD ⟨55,.data⟩ (by simp) rfl _ rfl
  refine ⟨(zas rfl rfl rfl d54),?_⟩
  refine zaz (f:=19) (args:=#[.pointer (some ⟨p,0,none⟩)]) (by simp [execOp,resolve,Act.eval,d55,go_sem]) ?_
  refine (hC12 w1 hI).mono ?_
  rintro e w2 ⟨rfl,h2⟩
  exact ⟨_,rfl,_,rfl,h2,rfl⟩
 case hop=>
  intro i o hi hn
  have hlt:i<60:=(Array.getElem?_eq_some_iff.1 hi).1
  rcases (show i=0∨i=1∨i=2∨i=3∨i=4∨i=5∨i=6∨i=7∨i=8∨i=9∨i=10∨i=11∨i=12∨i=13∨i=14∨i=15∨i=16∨i=17∨i=18∨i=19∨i=20∨i=21∨i=22∨i=23∨i=24∨i=25∨i=26∨i=27∨i=28∨i=29∨i=30∨i=31∨i=32∨i=33∨i=34∨i=35∨i=36∨i=37∨i=38∨i=39∨i=40∨i=41∨i=42∨i=43∨i=44∨i=45∨i=46∨i=47∨i=48∨i=49∨i=50∨i=51∨i=52∨i=53∨i=54∨i=55∨i=56∨i=57∨i=58∨i=59 by omega) with rfl|rfl|rfl|rfl|rfl|rfl|rfl|rfl|rfl|rfl|rfl|rfl|rfl|rfl|rfl|rfl|rfl|rfl|rfl|rfl|rfl|rfl|rfl|rfl|rfl|rfl|rfl|rfl|rfl|rfl|rfl|rfl|rfl|rfl|rfl|rfl|rfl|rfl|rfl|rfl|rfl|rfl|rfl|rfl|rfl|rfl|rfl|rfl|rfl|rfl|rfl|rfl|rfl|rfl|rfl|rfl|rfl|rfl|rfl|rfl
  all_goals first|exact absurd rfl (hn 0 (by omega))|exact absurd rfl (hn 1 (by omega))|exact absurd rfl (hn 2 (by omega))|exact absurd rfl (hn 3 (by omega))|exact absurd rfl (hn 4 (by omega))|exact absurd rfl (hn 5 (by omega))|exact absurd rfl (hn 6 (by omega))|exact absurd rfl (hn 7 (by omega))|exact absurd rfl (hn 8 (by omega))|exact absurd rfl (hn 9 (by omega))|exact absurd rfl (hn 10 (by omega))|exact absurd rfl (hn 11 (by omega))|exact absurd rfl (hn 12 (by omega))|skip
  all_goals obtain rfl:=Option.some.inj hi
  all_goals clear hi hlt hn
  all_goals intro a w1 hI hS hD
  · exact zc rfl (by simp [execOp,Act.eval,zs hS s4,go_sem])
  · exact zc rfl (by simp [execOp,Act.eval,zdc hD 0 52,go_sem])
  · exact zc rfl (by simp [execOp,Act.eval,zdc hD 1 53,go_sem])
  · exact zcg (zgc hD 2 54) rfl (by simp [execOp,Act.eval,zs hS s5,go_sem])
  · exact zcg (zgc hD 2 54) rfl (by simp [execOp,Act.eval,zdc hD 3 55,go_sem])
  · exact zc rfl (by simp [execOp,Act.eval,zdc hD 2 54,zdc hD 4 56,go_sem])
  · exact zc rfl (by simp [execOp,Act.eval,zdc hD 5 57,go_sem])
  · exact zcg (zgc hD 6 58) rfl (by simp [execOp,Act.eval,zs hS s6,go_sem])
  · exact zcg (zgc hD 6 58) rfl (by simp [execOp,Act.eval,zdc hD 7 59,go_sem])
  · exact zc rfl (by simp [execOp,Act.eval,zdc hD 6 58,zdc hD 8 60,go_sem])
  · exact zc rfl (by simp [execOp,Act.eval,zdc hD 9 61,go_sem])
  · exact zcg (zgc hD 10 62) rfl (by simp [execOp,Act.eval,zs hS s7,go_sem])
  · exact zcg (zgc hD 10 62) rfl (by simp [execOp,Act.eval,zdc hD 11 63,go_sem])
  · exact zc rfl (by simp [execOp,Act.eval,zdc hD 10 62,zdc hD 12 64,go_sem])
  · exact zc rfl (by simp [execOp,Act.eval,zdc hD 13 65,go_sem])
  · exact zcg (zgc hD 14 66) rfl (by simp [execOp,Act.eval,zs hS s8,go_sem])
  · exact zcg (zgc hD 14 66) rfl (by simp [execOp,Act.eval,zdc hD 15 67,resolve,invoke,builtin,go_sem])
  · exact zcg (zgc hD 14 66) rfl (by simp [execOp,Act.eval,zdc hD 16 68,go_sem])
  · exact zc rfl (by simp [execOp,Act.eval,zdc hD 14 66,zdc hD 17 69,go_sem])
  · exact zc rfl (by simp [execOp,Act.eval,zdc hD 18 70,go_sem])
  · exact zcg (zgc hD 19 71) rfl (by simp [execOp,Act.eval,zs hS s8,go_sem])
  · exact zcg (zgc hD 19 71) rfl (by simp [execOp,Act.eval,zdc hD 20 72,go_sem])
  · exact zcg (zgc hD 19 71) rfl (by simp [execOp,Act.eval,zdc hD 21 73,c0 w1 hI,c1 w1 hI,go_sem])
  · exact zcg (zgc hD 19 71) rfl (by simp [execOp,Act.eval,zdc hD 22 74,zdc hD 23 75,go_sem])
  · exact zc rfl (by simp [execOp,Act.eval,zdc hD 19 71,zdc hD 24 76,go_sem])
  · exact zcg (zgc hD 26 78) rfl (by simp [execOp,Act.eval,zs hS s10,go_sem])
  · exact zc rfl (by simp [execOp,Act.eval,zdc hD 26 78,zdc hD 27 79,go_sem])
  · exact zcg (zgc hD 29 81) rfl (by simp [execOp,Act.eval,zs hS s9,x0 w1 hI,x1 w1 hI,go_sem])
  · exact zcg (zgc hD 29 81) rfl (by simp [execOp,Act.eval,zdc hD 30 82,zdc hD 31 83,go_sem])
  · exact zc rfl (by simp [execOp,Act.eval,zdc hD 29 81,zdc hD 32 84,go_sem])
  · exact zcg (zgc hD 34 86) rfl (by simp [execOp,Act.eval,zs hS s11,go_sem])
  · exact zcg (zgc hD 34 86) rfl (by simp [execOp,Act.eval,zdc hD 35 87,resolve,invoke,builtin,go_sem])
  · exact zcg (zgc hD 34 86) rfl (by simp [execOp,Act.eval,zdc hD 36 88,go_sem])
  · exact zc rfl (by simp [execOp,Act.eval,zdc hD 34 86,zdc hD 37 89,go_sem])
  · exact zcg (zgc hD 39 91) rfl (by simp [execOp,Act.eval,zs hS s3,go_sem])
  · exact zcg (zgc hD 39 91) rfl (by simp [execOp,Act.eval,zdc hD 41 93,go_sem])
  · exact zc rfl (by simp [execOp,Act.eval,zdc hD 39 91,zdc hD 42 94,go_sem])
  · exact zcg (zgc hD 44 96) rfl (by simp [execOp,Act.eval,zs hS s1,go_sem])
  · exact zcg (zgc hD 44 96) rfl (by simp [execOp,Act.eval,zdc hD 46 98,go_sem])
  · exact zc rfl (by simp [execOp,Act.eval,zdc hD 44 96,zdc hD 47 99,go_sem])
  · exact zcg (zgc hD 49 101) rfl (by simp [execOp,Act.eval,zs hS s3,go_sem])
  · exact zcg (zgc hD 49 101) rfl (by simp [execOp,Act.eval,zdc hD 51 103,go_sem])
  · exact zc rfl (by simp [execOp,Act.eval,zdc hD 49 101,zdc hD 52 104,go_sem])
  · exact zcg (zgc hD 54 106) rfl (by simp [execOp,Act.eval,zs hS s1,go_sem])
  · exact zcg (zgc hD 54 106) rfl (by simp [execOp,Act.eval,zdc hD 56 108,go_sem])
  · exact zc rfl (by simp [execOp,Act.eval,zdc hD 54 106,zdc hD 57 109,go_sem])
  exact zc rfl (by simp [execOp,Act.eval,zdc hD 58 110,go_sem])
theorem enL_set (Z:ByteArray→List En) (o:ByteArray) (k:Int) (x:List Nat×List Sm):enL (setZ Z o k x o) k=x:=by
 unfold setZ enL
 rw [if_pos rfl,List.find?_cons_of_pos (by simp)]
 rfl
abbrev oA:ByteArray:=⟨#[97]⟩
abbrev oB:ByteArray:=⟨#[98]⟩
def sm1:List Sm:=[⟨5,1⟩,⟨6,1⟩]
def sm2:List Sm:=[⟨6,9⟩]
def sm3:List Sm:=[⟨7,0⟩,⟨8,0⟩]
theorem sm_ok:(∀x∈sm1,OkS x)∧(∀x∈sm2,OkS x)∧(∀x∈sm3,OkS x):=by
 refine ⟨?_,?_,?_⟩ <;> intro x hx <;> simp only [sm1,sm2,sm3,List.mem_cons,List.not_mem_nil,or_false] at hx
 · rcases hx with rfl|rfl <;> exact ⟨by simp [I64],by simp⟩
 · rcases hx with rfl;exact ⟨by simp [I64],by simp⟩
 rcases hx with rfl|rfl <;> exact ⟨by simp [I64],by simp⟩
theorem sm_facts:Ris sm1∧¬Ris (sm1++sm2)∧Ris (sm1++sm3)∧(gO (gB [] sm1)).length=1∧(gO (gB sm1 sm3)).length=1∧(gO (gF sm1)).length=1∧rng 6 6 sm1=[⟨6,1⟩]:=by
 refine ⟨by decide,by decide,by decide,?_,?_,?_,by kernel_rfl⟩ <;> kernel_rfl
theorem tk_zero {n:Nat} {st:K.Sx} {Z:ByteArray→List En} (h:SZ n st Z) (hz:∀o,Z o=[]):(K.tkL st n).length=0:=by
 rw [List.length_eq_zero_iff,List.eq_nil_iff_forall_not_mem]
 rintro ⟨k,v⟩ hm
 obtain ⟨i,hi,⟨o,d⟩,e,_⟩:=K.mem_tkL.1 hm
 have:=(h.mem o i).2 ⟨hi,d,e⟩
 rw [hz o] at this
 simp at this
theorem t0_zero (n:Nat):(K.tkL (fun _=>none) n).length=0:=by
 rw [List.length_eq_zero_iff,List.eq_nil_iff_forall_not_mem]
 rintro ⟨k,v⟩ hm
 obtain ⟨i,hi,x,e,_⟩:=K.mem_tkL.1 hm
 cases e
theorem app_ok (o:ByteArray) (k:Int) (F:Nat→Prop) (S p n:Nat) (st:K.Sx) (Z:ByteArray→List En) (ad:Option Addr) (N c:Nat) (l:List Sm) (w:World) (h:SQ F w S p n st Z) (hG:Gv w) (hlo:2≤w.heap.size) (hF2:∀i,F i→2≤i) (hL:Ss w ad l) (hN:l.length=N) (hN9:N≤100000)
 (hk:0≤k) (hr:Ris ((enL (Z o) k).2++l)) (hl:l≠[]) (hn:zef (enL (Z o) k).1 (enL (Z o) k).2 l≤((n - (K.tkL st n).length:Nat):Int)):
 Calls Tryz.prog 12 #[.pointer (some ⟨S,0,none⟩),.string o,.int .i64 k,.slice ad N c] w fun e w'=>e=.returned (.int .i64 0)∧KpP F w S p n st Z o k l (gO (gB (enL (Z o) k).2 l)).length w':=by
 refine (zf2 o k F S p n st Z ad N c l w h hG hlo hF2 hL hN hN9).mono ?_
 rintro e w' (⟨_,⟨h1,_⟩|⟨_,h1,_⟩|⟨_,_,h1,_⟩|⟨_,_,_,h1,_⟩⟩|⟨_,_,_,_,h1,h2⟩)
 · omega
 · exact absurd hr h1
 · exact absurd h1 hl
 · omega
 exact ⟨h1,h2⟩
theorem app_stale (o:ByteArray) (k:Int) (F:Nat→Prop) (S p n:Nat) (st:K.Sx) (Z:ByteArray→List En) (ad:Option Addr) (N c:Nat) (l:List Sm) (w:World) (h:SQ F w S p n st Z) (hG:Gv w) (hlo:2≤w.heap.size) (hF2:∀i,F i→2≤i) (hL:Ss w ad l) (hN:l.length=N) (hN9:N≤100000)
 (hk:0≤k) (hr:¬Ris ((enL (Z o) k).2++l)):
 Calls Tryz.prog 12 #[.pointer (some ⟨S,0,none⟩),.string o,.int .i64 k,.slice ad N c] w fun e w'=>e=.returned (.int .i64 140)∧Below w.heap.size w w':=by
 refine (zf2 o k F S p n st Z ad N c l w h hG hlo hF2 hL hN hN9).mono ?_
 rintro e w' (⟨b,⟨h1,_⟩|⟨_,h1,h2⟩|⟨_,h1,_⟩|⟨_,h1,_⟩⟩|⟨_,h1,_⟩)
 · omega
 · exact ⟨h2,b⟩
 · exact absurd h1 hr
 · exact absurd h1 hr
 exact absurd h1 hr
theorem need_ok (o:ByteArray) (k:Int) (F:Nat→Prop) (S p n:Nat) (st:K.Sx) (Z:ByteArray→List En) (ad:Option Addr) (N c:Nat) (l:List Sm) (w:World) (h:SQ F w S p n st Z) (hG:Gv w) (hlo:2≤w.heap.size) (hL:Ss w ad l) (hN:l.length=N) (hN9:N≤100000)
 (hk:0≤k) (hr:Ris ((enL (Z o) k).2++l)):
 Calls Tryz.prog 14 #[.pointer (some ⟨S,0,none⟩),.string o,.int .i64 k,.slice ad N c] w fun e w'=>e=.returned (.tuple #[.int .i64 (zef (enL (Z o) k).1 (enL (Z o) k).2 l),.int .i64 0])∧Below w.heap.size w w':=by
 refine (needsP o k F S p n st Z ad N c l w h hG hlo hL hN hN9).mono ?_
 rintro e w' ⟨b,⟨h1,_⟩|⟨_,h1,_⟩|⟨_,_,h1⟩⟩
 · omega
 · exact absurd hr h1
 exact ⟨h1,b⟩
theorem ss_new (w:World) (l:List Sm) (h:∀x∈l,OkS x) (C:Array Value) (hC:C=(cS l).toArray):Ss (w.alloc (.cells C 53)) (some ⟨w.heap.size,0,none⟩) l:=by
 subst hC
 exact ss_blk (Blk.new w 53 (cS l)) h
def ShA (F:Nat→Prop) (S p:Nat) (st:K.Sx) (Z:ByteArray→List En) (xb:Nat) (v:Value) (w0 w1:World):Prop:=SQ F w1 S p 2 st Z∧Blk w1 xb 53 [.int .i64 6,.int .u64 1]∧w1.ownsRow 0 53 2 v 1 (cS [⟨6,1⟩])∧Below w0.heap.size w0 w1
def ShB (p:Nat) (xb:Nat) (v:Value) (w0 w1:World):Prop:=(∃G st,K.PQ G w1 p 2 st∧(K.tkL st 2).length=0)∧Blk w1 xb 53 [.int .i64 6,.int .u64 1]∧w1.ownsRow 0 53 2 v 1 (cS [⟨6,1⟩])∧Below w0.heap.size w0 w1
theorem ShA.later {F:Nat→Prop} {S p:Nat} {st:K.Sx} {Z:ByteArray→List En} {xb:Nat} {v:Value} {w0 w1 w2:World} (h:ShA F S p st Z xb v w0 w1) (hb:Below w1.heap.size w1 w2):ShA F S p st Z xb v w0 w2:=⟨h.1.later hb,h.2.1.later hb,owl h.2.2.1 hb,h.2.2.2.trans (hb.mono h.2.2.2.size)⟩
theorem ShB.later {p:Nat} {xb:Nat} {v:Value} {w0 w1 w2:World} (h:ShB p xb v w0 w1) (hb:Below w1.heap.size w1 w2):ShB p xb v w0 w2:=by
 obtain ⟨⟨G,st,h1,h2⟩,h3⟩:=h
 exact ⟨⟨G,st,h1.later hb,h2⟩,h3.1.later hb,owl h3.2.1 hb,h3.2.2.trans (hb.mono h3.2.2.size)⟩
theorem ShA.drop {F:Nat→Prop} {S p:Nat} {st:K.Sx} {Z:ByteArray→List En} {xb:Nat} {v:Value} {w0 w1 w2:World} {o:ByteArray} (h:ShA F S p st Z xb v w0 w1) (hF:∀i,F i→w0.heap.size≤i) (hz:∀o',rmZ Z o o'=[]) (hd:DpP F w1 S p 2 st Z o w2):ShB p xb v w0 w2:=by
 obtain ⟨F',gv,q1,q2,q3,q4⟩:=hd
 obtain ⟨G,g1,g2⟩:=q1.pool
 refine ⟨⟨G,_,g1,tk_zero q1.sz hz⟩,q2.blk h.2.1 (fun e=>?_),q2.owns h.2.2.1 (fun g hg e=>?_),h.2.2.2.trans (q2.below h.2.2.2.size hF)⟩
 · rcases (h.1.tag e).2 53 h.2.1.tg with e|e <;> cases e
 rcases (h.1.tag e).2 53 (zab h.2.2.1 g hg) with e|e <;> cases e
def phS (A B:World→Prop) (k:Nat):World→Prop:=if k≤10 then A else B
theorem shownP (w:World) (hG:Gv w) (hlo:2≤w.heap.size):Calls Tryz.prog 4 #[] w fun e w'=>e=.returned (.bool true)∧Below w.heap.size w w':=by
 have HG:=zaa hG
 have HLO:=zaa hlo
 clear hG hlo
 go_enter Tryz.func4,Tryz.ntmps4
 go_wp2_with fail
 refine (K.newX 2 (by omega) (by omega) w).mono ?_
 rintro e w1 ⟨p,G,rfl,hP,b1,hp1,hG1⟩
 have HP:=zaa hP
 have B1:=zaa b1
 have HG1:=zaa hG1
 clear hP b1 hG1
 go_wp2_with fail
 refine (storeP G w1 p 2 HP.out).mono ?_
 rintro e w2 ⟨S,F,rfl,hQ,b2,hS2,hF2⟩
 have HQ:=zaa hQ
 have B2:Hid (Below w.heap.size w w2):=zaa (B1.out.trans (b2.mono B1.out.size))
 have HF2:Hid (∀i,F i→w.heap.size≤i):=zaa (fun i hi=>by
  rcases hF2 i hi with e|e
  · exact HG1.out i e
  exact Nat.le_trans B1.out.size e)
 clear hQ b2 hF2
 go_wp2_with fail
 refine (zbt 5 1 w2).mono ?_
 rintro e w3 ⟨rfl,b3⟩
 have B3:Hid (Below w.heap.size w w3):=zaa (B2.out.trans (b3.mono B2.out.size))
 have HQ3:=zaa (HQ.out.later b3)
 clear b3
 go_wp2_with fail
 refine (zbt 6 1 w3).mono ?_
 rintro e w4 ⟨rfl,b4⟩
 have B4:Hid (Below w.heap.size w w4):=zaa (B3.out.trans (b4.mono B3.out.size))
 have HQ4:=zaa (HQ3.out.later b4)
 clear b4
 go_wp2_with fail
 have S5:=zaa (ss_new w4 sm1 sm_ok.1 #[.int .i64 5,.int .u64 1,.int .i64 6,.int .u64 1] rfl)
 have bl5:Below w4.heap.size w4 (w4.alloc (.cells #[.int .i64 5,.int .u64 1,.int .i64 6,.int .u64 1] 53)):=(Below.refl _ _).alloc (Nat.le_refl _) _
 have B5:Hid (Below w.heap.size w (w4.alloc (.cells #[.int .i64 5,.int .u64 1,.int .i64 6,.int .u64 1] 53))):=zaa (B4.out.trans (bl5.mono B4.out.size))
 have HQ5:=zaa (HQ4.out.later bl5)
 clear bl5
 have hlo5:=Nat.le_trans HLO.out B5.out.size
 refine (app_ok oA 0 F S p 2 (fun _=>none) (fun _=>[]) (some ⟨w4.heap.size,0,none⟩) 2 2 sm1 _ HQ5.out (HG.out.bel B5.out HLO.out) hlo5 (fun i hi=>Nat.le_trans HLO.out (HF2.out i hi)) S5.out rfl (by omega) (by omega) sm_facts.1 (by simp [sm1]) (by
  rw [t0_zero]
  show ((gO (gB [] sm1)).length:Int) - _≤_
  rw [sm_facts.2.2.2.1]
  decide)).mono ?_
 rintro e w6 ⟨rfl,F6,st6,news,q1,q2,q3,q4,q5⟩
 have hQ6:SQ F6 w6 S p 2 st6 (setZ (fun _=>[]) oA 0 (news,sm1)):=q1
 have hnl:news.length=1:=by
  rw [q5]
  show (gO (gB [] sm1)).length - _=1
  rw [sm_facts.2.2.2.1]
  rfl
 have htk:(K.tkL st6 2).length=1:=by
  rw [q4,t0_zero]
  show 0+((gO (gB [] sm1)).length - _)=1
  rw [sm_facts.2.2.2.1]
  rfl
 have HQ6:=zaa hQ6
 have HF6:Hid (∀i,F6 i→w.heap.size≤i):=zaa (fun i hi=>by
  rcases q3 i hi with e|e
  · exact HF2.out i e
  exact Nat.le_trans B5.out.size e)
 have B6:Hid (Below w.heap.size w w6):=zaa (B5.out.trans (q2.below B5.out.size HF2.out))
 have HNL:=zaa (And.intro hnl htk)
 obtain ⟨Z1,hZ1⟩:∃Z1,setZ (fun _=>[]) oA 0 (news,sm1)=Z1:=⟨_,rfl⟩
 have hen1:enL (Z1 oA) 0=(news,sm1):=by rw [←hZ1];exact enL_set _ _ _ _
 rw [hZ1] at HQ6
 have HEN:=zaa (And.intro hen1 hZ1)
 clear q1 q2 q3 q4 q5 hQ6 hnl htk hen1 hZ1 hlo5
 go_wp2_with fail
 refine (zbt 6 9 w6).mono ?_
 rintro e w7 ⟨rfl,b7⟩
 have B7:Hid (Below w.heap.size w w7):=zaa (B6.out.trans (b7.mono B6.out.size))
 have HQ7:=zaa (HQ6.out.later b7)
 clear b7
 go_wp2_with fail
 have S8:=zaa (ss_new w7 sm2 sm_ok.2.1 #[.int .i64 6,.int .u64 9] rfl)
 have bl8:Below w7.heap.size w7 (w7.alloc (.cells #[.int .i64 6,.int .u64 9] 53)):=(Below.refl _ _).alloc (Nat.le_refl _) _
 obtain ⟨w8,hw8⟩:∃w8,w7.alloc (.cells #[.int .i64 6,.int .u64 9] 53)=w8:=⟨_,rfl⟩
 rw [hw8] at S8 bl8 ⊢
 have B8:Hid (Below w.heap.size w w8):=zaa (B7.out.trans (bl8.mono B7.out.size))
 have HQ8:=zaa (HQ7.out.later bl8)
 clear bl8 hw8
 have hlo8:=Nat.le_trans HLO.out B8.out.size
 refine (app_stale oA 0 F6 S p 2 st6 Z1 (some ⟨w7.heap.size,0,none⟩) 1 1 sm2 w8 HQ8.out (HG.out.bel B8.out HLO.out) hlo8 (fun i hi=>Nat.le_trans HLO.out (HF6.out i hi)) S8.out rfl (by omega) (by omega) (by rw [HEN.out.1];exact sm_facts.2.1)).mono ?_
 rintro e w9 ⟨rfl,b9⟩
 have B9:Hid (Below w.heap.size w w9):=zaa (B8.out.trans (b9.mono B8.out.size))
 have HQ9:=zaa (HQ8.out.later b9)
 clear b9 hlo8
 go_wp2_with fail
 refine (zbt 7 0 w9).mono ?_
 rintro e w10 ⟨rfl,b10⟩
 have B10:Hid (Below w.heap.size w w10):=zaa (B9.out.trans (b10.mono B9.out.size))
 have HQ10:=zaa (HQ9.out.later b10)
 clear b10
 go_wp2_with fail
 refine (zbt 8 0 w10).mono ?_
 rintro e w11 ⟨rfl,b11⟩
 have B11:Hid (Below w.heap.size w w11):=zaa (B10.out.trans (b11.mono B10.out.size))
 have HQ11:=zaa (HQ10.out.later b11)
 clear b11
 go_wp2_with fail
 have S12:=zaa (ss_new w11 sm3 sm_ok.2.2 #[.int .i64 7,.int .u64 0,.int .i64 8,.int .u64 0] rfl)
 have bl12:Below w11.heap.size w11 (w11.alloc (.cells #[.int .i64 7,.int .u64 0,.int .i64 8,.int .u64 0] 53)):=(Below.refl _ _).alloc (Nat.le_refl _) _
 obtain ⟨w12,hw12⟩:∃w12,w11.alloc (.cells #[.int .i64 7,.int .u64 0,.int .i64 8,.int .u64 0] 53)=w12:=⟨_,rfl⟩
 rw [hw12] at S12 bl12 ⊢
 have B12:Hid (Below w.heap.size w w12):=zaa (B11.out.trans (bl12.mono B11.out.size))
 have HQ12:=zaa (HQ11.out.later bl12)
 clear bl12 hw12
 have hlo12:=Nat.le_trans HLO.out B12.out.size
 have hneed:zef news sm1 sm3=0:=by
  unfold zef
  rw [sm_facts.2.2.2.2.1]
  unfold hadL
  rw [HNL.out.1]
  rfl
 refine (need_ok oA 0 F6 S p 2 st6 Z1 (some ⟨w11.heap.size,0,none⟩) 2 2 sm3 w12 HQ12.out (HG.out.bel B12.out HLO.out) hlo12 S12.out rfl (by omega) (by omega) (by rw [HEN.out.1];exact sm_facts.2.2.1)).mono ?_
 rw [HEN.out.1,hneed]
 rintro e w13 ⟨rfl,b13⟩
 have B13:Hid (Below w.heap.size w w13):=zaa (B12.out.trans (b13.mono B12.out.size))
 have HQ13:=zaa (HQ12.out.later b13)
 clear b13 hlo12 hneed
 go_wp2_with fail
 have hlo13:=Nat.le_trans HLO.out B13.out.size
 refine (rangeP oA 0 6 6 F6 S p 2 st6 Z1 w13 HQ13.out (HG.out.bel B13.out HLO.out) hlo13).mono ?_
 rw [HEN.out.1]
 simp only
 rw [sm_facts.2.2.2.2.2.2]
 rintro e w14 ⟨ad14,c14,rfl,o14,k14,b14⟩
 have B14:Hid (Below w.heap.size w w14):=zaa (B13.out.trans (b14.mono B13.out.size))
 have HQ14:=zaa (HQ13.out.later b14)
 have O14:=zaa (zbq o14 (b':=0) (fun g hg=>Nat.zero_le _))
 have hlb:∃lb,ad14=some ⟨lb,0,none⟩:=by
  rcases o14.2 with ⟨e0,_⟩|⟨g,cap,cur,e0,_⟩
  · cases e0
  simp only [Value.slice.injEq] at e0;exact ⟨g,e0.1⟩
 obtain ⟨lb,rfl⟩:=hlb
 clear b14 hlo13 o14 k14
 go_wp2_with fail
 have hlo14:=Nat.le_trans HLO.out B14.out.size
 refine (lastP oA 0 F6 S p 2 st6 Z1 w14 HQ14.out (HG.out.bel B14.out HLO.out) hlo14).mono ?_
 rw [HEN.out.1,show ((news,sm1).2.getLast?.getD z0)=⟨6,1⟩ from rfl,show (!(news,sm1).2.isEmpty)=true from rfl]
 rintro e w15 ⟨rfl,b15⟩
 have B15:Hid (Below w.heap.size w w15):=zaa (B14.out.trans (b15.mono B14.out.size))
 have HQ15:=zaa (HQ14.out.later b15)
 have O15:=zaa (owl O14.out b15)
 clear b15 hlo14
 go_wp2_with fail
 have bl16:Below w15.heap.size w15 (w15.alloc (.cells #[.int .i64 6,.int .u64 1] 53)):=(Below.refl _ _).alloc (Nat.le_refl _) _
 have X16:=zaa (Blk.new w15 53 [.int .i64 6,.int .u64 1])
 obtain ⟨w16,hw16⟩:∃w16,w15.alloc (.cells #[.int .i64 6,.int .u64 1] 53)=w16:=⟨_,rfl⟩
 have X16':Hid (Blk w16 w15.heap.size 53 [.int .i64 6,.int .u64 1]):=zaa (by rw [←hw16];exact X16.out)
 have hgoal16:=hw16
 rw [hw16] at bl16
 have B16:Hid (Below w.heap.size w w16):=zaa (B15.out.trans (bl16.mono B15.out.size))
 have HQ16:=zaa (HQ15.out.later bl16)
 have O16:=zaa (owl O15.out bl16)
 first|rw [hw16]|skip
 clear bl16 hgoal16 hw16 X16
 refine (schunksP oA 0 F6 S p 2 st6 Z1 w16 HQ16.out).mono ?_
 rw [HEN.out.1]
 rintro e w17 ⟨ac,cc,Dc,rfl,_,b17⟩
 have B17:Hid (ShA F6 S p st6 Z1 w15.heap.size (.slice (some ⟨lb,0,none⟩) 1 c14) w w17):=zaa ⟨HQ16.out.later b17,X16'.out.later b17,owl O16.out b17,B16.out.trans (b17.mono B16.out.size)⟩
 have hcl:(List.map encC (gO (gF (news,sm1).2))).length=1:=by rw [List.length_map];exact sm_facts.2.2.2.2.2.1
 rw [hcl]
 clear b17 hcl
 go_wp2_with fail
 have HC0:Hid (∀w1,ShA F6 S p st6 Z1 w15.heap.size (.slice (some ⟨lb,0,none⟩) 1 c14) w w1→w1.cell? ⟨lb,0,none⟩=some (.int .i64 6)∧w1.cell? ⟨lb,1,none⟩=some (.int .u64 1)∧w1.cell? ⟨w15.heap.size,0,none⟩=some (.int .i64 6)∧w1.cell? ⟨w15.heap.size,1,none⟩=some (.int .u64 1)):=zaa (fun w1 h=>⟨zai h.2.2.1 0 _ rfl,zai h.2.2.1 1 _ rfl,h.2.1.cell 0,h.2.1.cell 1⟩)
 have HC1:Hid (∀w1,ShB p w15.heap.size (.slice (some ⟨lb,0,none⟩) 1 c14) w w1→w1.cell? ⟨lb,0,none⟩=some (.int .i64 6)∧w1.cell? ⟨lb,1,none⟩=some (.int .u64 1)∧w1.cell? ⟨w15.heap.size,0,none⟩=some (.int .i64 6)∧w1.cell? ⟨w15.heap.size,1,none⟩=some (.int .u64 1)):=zaa (fun w1 h=>⟨zai h.2.2.1 0 _ rfl,zai h.2.2.1 1 _ rfl,h.2.1.cell 0,h.2.1.cell 1⟩)
 have hcell:∀w1,(∃k,k≤13∧phS (ShA F6 S p st6 Z1 w15.heap.size (.slice (some ⟨lb,0,none⟩) 1 c14) w) (ShB p w15.heap.size (.slice (some ⟨lb,0,none⟩) 1 c14) w) k w1)→w1.cell? ⟨lb,0,none⟩=some (.int .i64 6)∧w1.cell? ⟨lb,1,none⟩=some (.int .u64 1)∧w1.cell? ⟨w15.heap.size,0,none⟩=some (.int .i64 6)∧w1.cell? ⟨w15.heap.size,1,none⟩=some (.int .u64 1):=by
  rintro w1 ⟨k,_,h⟩
  unfold phS at h
  split at h
  · exact HC0.out w1 h
  exact HC1.out w1 h
 refine shown_r13 S p lb w15.heap.size c14 cc ac (phS (ShA F6 S p st6 Z1 w15.heap.size (.slice (some ⟨lb,0,none⟩) 1 c14) w) (ShB p w15.heap.size (.slice (some ⟨lb,0,none⟩) 1 c14) w)) _ _ _ rfl rfl rfl rfl rfl rfl rfl rfl rfl rfl rfl (fun w1 h=>(hcell w1 h).1) (fun w1 h=>(hcell w1 h).2.1) (fun w1 h=>(hcell w1 h).2.2.1) (fun w1 h=>(hcell w1 h).2.2.2) (B17.out.later (Below.refl _ _).drew) ?_ (fun w1 h=>h) (fun w1 h=>h) ?_ (fun w1 h=>h) (fun w1 h=>h) ?_ (fun w1 h=>h) ?_ (fun w1 h=>h) ?_ (fun w1 h=>h) ?_ ?_
 · intro w1 h
   refine (zbt 6 1 w1).mono ?_
   rintro e w2 ⟨rfl,b⟩
   exact ⟨rfl,ShA.later h b⟩
 · intro w1 h
   refine (zbt 6 1 w1).mono ?_
   rintro e w2 ⟨rfl,b⟩
   exact ⟨rfl,ShA.later h b⟩
 · intro w1 h
   have h':ShA F6 S p st6 Z1 w15.heap.size (.slice (some ⟨lb,0,none⟩) 1 c14) w w1:=h
   refine (sslotsP oA F6 S p 2 st6 Z1 w1 h'.1).mono ?_
   rintro e w2 ⟨rfl,b⟩
   refine ⟨?_,ShA.later h b⟩
   rw [←HEN.out.2]
   have:((setZ (fun _=>[]) oA 0 (news,sm1) oA).flatMap slF).length=1:=by
    unfold setZ rmE slF
    simp [HNL.out.1]
   rw [this]
   rfl
 · intro w1 h
   have h':ShA F6 S p st6 Z1 w15.heap.size (.slice (some ⟨lb,0,none⟩) 1 c14) w w1:=h
   obtain ⟨G1,g1,_⟩:=h'.1.pool
   refine (K.leftX G1 p 2 st6 w1 g1).mono ?_
   rintro e w2 ⟨rfl,b⟩
   rw [HNL.out.2]
   exact ⟨rfl,ShA.later h b⟩
 · intro w1 h
   have h':ShA F6 S p st6 Z1 w15.heap.size (.slice (some ⟨lb,0,none⟩) 1 c14) w w1:=h
   refine (sdropP oA F6 S p 2 st6 Z1 w1 h'.1).mono ?_
   rintro e w2 ⟨rfl,b⟩
   refine ⟨?_,h'.drop HF6.out (fun o'=>?_) b⟩
   · rw [←HEN.out.2]
     have:((setZ (fun _=>[]) oA 0 (news,sm1) oA).flatMap slF).length=1:=by
      unfold setZ rmE slF
      simp [HNL.out.1]
     rw [this]
     rfl
   rw [←HEN.out.2]
   unfold rmZ setZ
   split
   · rfl
   rfl
 · intro w1 h
   have h':ShB p w15.heap.size (.slice (some ⟨lb,0,none⟩) 1 c14) w w1:=h
   obtain ⟨⟨G1,st1,g1,g2⟩,_⟩:=h'
   refine (K.leftX G1 p 2 st1 w1 g1).mono ?_
   rintro e w2 ⟨rfl,b⟩
   rw [g2]
   exact ⟨rfl,ShB.later h b⟩
 intro v52 v53 v54 v55 v56 v57 v58 v59 v60 v61 v62 v63 v64 v65 v66 v67 v68 v69 v70 v71 v72 v73 v74 v75 v76 v77 v78 v79 v80 v81 v82 v83 v84 v85 v86 v87 v88 v89 v90 v91 v92 v93 v94 v95 v96 v97 v98 v99 v100 v101 v102 v103 v104 v105 v106 v107 v108 v109 v110 w2 hI
 have HI:Hid (ShB p w15.heap.size (.slice (some ⟨lb,0,none⟩) 1 c14) w w2):=zaa hI
 clear hI hcell
 simp only [Act.put,List.setIfInBounds_toArray,List.set_cons_succ,List.set_cons_zero]
 go_wp2_with fail
 go_ret
 exact ⟨rfl,HI.out.2.2.2⟩
end Go.Proofs.YtlppibigceeimaaGreatDoor
