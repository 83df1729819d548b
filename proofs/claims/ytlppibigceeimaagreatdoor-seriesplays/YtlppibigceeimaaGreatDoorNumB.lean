import Derived.Test.YtlppibigceeimaaGreatDoorNumA
import Derived.Test.YtlppibigceeimaaGreatDoorRow
set_option linter.unusedSimpArgs false
set_option linter.unusedVariables false
set_option maxHeartbeats 40000000
set_option maxRecDepth 100000
namespace Go.Proofs.YtlppibigceeimaaGreatDoor.Q
open Go.RowKit
theorem ze6:(Tryz.prog.info? 5).map (fun i=>(i.zero,i.size,i.bytes))=some (some (.int .u8 0),1,1):=by kernel_rfl
theorem size5:(Tryz.prog.info? 5).map (·.size)=some 1:=by kernel_rfl
theorem owns_splice {w:World} {g n m:Nat} {l:List Int} (hl:l.length=n) (hm:m≤maxLen) (hnm:n≤m)
 (h:w.heap[g]?=some (.cells (splice (List.replicate m (Value.int .u8 0)) 0 (zae l)).toArray 5 (0,0))):
 w.ownsRow g 5 1 (.slice (some ⟨g,0,none⟩) n m) n (zae l):=by
 refine ⟨by rw [zaf,hl];omega,.inr ⟨g,m,_,rfl,Nat.le_refl _,h,hnm,hm,?_,?_⟩⟩
 · rw [List.size_toArray,length_splice _ _ _ (by rw [zaf,hl];simp;omega)]
   simp
 simp only [splice,List.take_zero,List.nil_append,Nat.mul_one]
 rw [List.take_append_of_le_length (by rw [zaf,hl];omega),List.take_of_length_le (by rw [zaf,hl];omega)]
theorem copy_src {w w1:World} {ad:Option Addr} {len:Nat} {l:List Int} (hs:Sl w ad len l) (hb:Below w.heap.size w w1) {dp d:Option Addr} (hd:dp=d):
 0<(zae l).length→dp=d∧∃x,ad=some x∧∀j v,(zae l)[j]?=some v→w1.cell? (x.add j)=some v:=by
 intro hp
 rw [zaf,hs.len] at hp
 have hs2:=hs.later hb
 obtain ⟨b,off,rfl,_⟩:=hs.at hp
 exact ⟨hd,_,rfl,hs2.cells⟩
theorem zeg (ad:Option Addr) (len cap room:Nat) (l:List Int) (w:World) (hs:Sl w ad len l) (hb:len+room≤281474976710656):
 Calls Tryz.prog 149 #[.slice ad len cap,.int .i64 room] w fun e w'=>e=.returned (.slice (some ⟨w.heap.size,0,none⟩) len (len+room))∧
  w'.ownsRow w.heap.size 5 1 (.slice (some ⟨w.heap.size,0,none⟩) len (len+room)) len (zae l)∧Below w.heap.size w w':=by
 obtain ⟨i0,hi,hz0,hz1,hz2⟩:=info_parts ze6
 have hlen:=hs.len
 go_enter Tryz.func149,Tryz.ntmps149
 go_wp2_with (first
  |(at_make;refine zee _ rfl _ _ 84 rfl 5 i0 (.int .u8 0) Tryz.underlying84 hi hz0 hz1 hz2 rfl _ _ _ _ len (len+room) rfl rfl (by omega) (by omega) (by omega) (by omega) ?_;intro w1 hr1 hs1 hb1)
  |(refine wpList_copy_splice rfl (.tmp 13) (.tmp 14) 84 84 rfl 5 Tryz.underlying84 size5 _ _ len (len+room) len cap rfl rfl w.heap.size 0 (List.replicate (len+room) (.int .u8 0)) 5 hr1 (zae l) (by rw [zaf,hlen];simp) (copy_src hs hb1 rfl) (by rw [zaf,hlen];simp) (zce l) w.heap.size w hb1 (Nat.le_refl _) ?_))
 intro w2 hr2 hb2
 go_wp2
 go_ret
 exact ⟨rfl,owns_splice hlen (by unfold maxLen;omega) (by omega) hr2.out,hb2⟩
theorem u64_goOn (x:Nat) (h:x≤18446744073709551615):bits .or .u64 (bits .and .u64 (x:Int) 127) 128=((x%128+128:Nat):Int):=by
 have e1:bits .and .u64 (x:Int) 127=((x &&& 127:Nat):Int):=u64_and_nat x 127 (by omega) (by decide)
 have e2:x &&& 127=x%128:=Nat.and_two_pow_sub_one_eq_mod x 7
 have e3:bits .or .u64 ((x%128:Nat):Int) 128=((x%128 ||| 128:Nat):Int):=u64_or_nat (x%128) 128 (by omega) (by decide)
 have e4:x%128 ||| 128=128+x%128:=by rw [Nat.or_comm];exact nat_join 7 128 _ (by decide) (by omega)
 rw [e1,e2,e3,e4,Nat.add_comm]
theorem enc_byte (n:Nat) (h:n<18446744073709551616):Byte (enc n):=by
 intro c hc
 rw [enc_pre,List.mem_append] at hc
 rcases hc with h1|h1
 · have:=pre_byte _ _ _ h1;omega
 have:=last_lt n h
 obtain ⟨q,hq⟩:∃q,q=n / 128 ^ grp n:=⟨_,rfl⟩
 rw [←hq] at this h1
 simp at h1
 omega
theorem zfj (B g n0 cap N:Nat) (l:List Int) (w:World) (hown:w.ownsRow B 5 1 (.slice (some ⟨g,0,none⟩) n0 cap) n0 (zae l)) (hB:B≤w.heap.size)
 (h1:N≤18446744073709551615) (hroom:n0+grp N+1≤cap):
 Calls Tryz.prog 148 #[.slice (some ⟨g,0,none⟩) n0 cap,.int .u64 N] w fun e w'=>e=.returned (.slice (some ⟨g,0,none⟩) (n0+grp N+1) cap)∧
  w'.ownsRow B 5 1 (.slice (some ⟨g,0,none⟩) (n0+grp N+1) cap) (n0+grp N+1) (zae (l++enc N))∧Below B w w':=by
 obtain ⟨i0,hi,hz0,hz1,hz2⟩:=info_parts ze6
 have hg:=grp_le N
 obtain ⟨G,hG⟩:∃G,G=grp N:=⟨_,rfl⟩
 rw [←hG] at hg hroom ⊢
 have hgB:B≤g:=(hown.lt g rfl).1
 go_enter Tryz.func148,Tryz.ntmps148
 go_wp2_with fail
 refine (zd6 _ _ (by omega) (by omega)).mono ?_
 rintro e w' ⟨rfl,rfl⟩
 rw [Int.toNat_natCast,←hG]
 have HG:Hid (G=grp N):=hG
 clear hG
 go_wp2_with fail
 go_loopw [0,1,8] (fun v x i wr=>∃k:Nat,k≤G∧i=.int .i64 k∧x=.int .u64 ((N / 128 ^ k:Nat):Int)∧v=.slice (some ⟨g,0,none⟩) (n0+k) cap∧
  wr.ownsRow B 5 1 (.slice (some ⟨g,0,none⟩) (n0+k) cap) (n0+k) (zae (l++pre k N))∧Below B w' wr) (fun _ _ i _=>G - (intOf i).toNat)
 case atStart=>exact ⟨0,Nat.zero_le _,rfl,by simp,rfl,by simpa [pre] using hown,Below.refl _ _⟩
 case round=>
  obtain ⟨k,hk,rfl,rfl,rfl,hownr,hbr⟩:=hrel
  have hq:N / 128 ^ k≤18446744073709551615:=Nat.le_trans (Nat.div_le_self _ _) h1
  have hbyte:=u64_goOn (N / 128 ^ k) hq
  have hpre:pre (k+1) N=pre k N++[((N / 128 ^ k%128+128:Nat):Int)]:=rfl
  have hnext:N / 128 ^ k / 128=N / 128 ^ (k+1):=by rw [Nat.div_div_eq_div_mul,Nat.pow_succ]
  have HP:Hid (pre (k+1) N=pre k N++[((N / 128 ^ k%128+128:Nat):Int)]):=hpre
  have HN:Hid (N / 128 ^ k / 128=N / 128 ^ (k+1)):=hnext
  clear hpre hnext
  generalize hx:N / 128 ^ k=x at*
  have HX:Hid (N / 128 ^ k=x):=hx
  clear hx
  by_cases hlt:k<G
  · go_wp2_with (first
     |(at_builtin;refine wpList_append_fits _ rfl _ _ 84 rfl B 5 i0 1 Tryz.underlying84 hi hz1 g (n0+k) cap _ rfl (hownr.alloc _) ⟨wr.heap.size,0,none⟩ 1 1 [.int .u8 ((x%128+128:Nat):Int)] rfl rfl (cell_one_new _ _ _) (by simp [Value.oneCell']) (by omega) ?_;intro w2 hown2 hgrow2))
    go_roundw
    case rel=>
     refine ⟨k+1,by omega,by go_num,?_,rfl,?_,?_⟩
     · rw [←HN.out];go_num
     · rw [HP.out,←List.append_assoc,za2];exact hown2
     exact (hbr.alloc (by have:=hbr.size;omega) _).grown hgrow2 (by have:=hbr.size;simp;omega) (by intro j hj;cases hj;exact hgB)
    case measure=>simp [intOf];omega
  obtain rfl:k=G:=by omega
  have hlast:x<128:=by
   have:=last_lt N (by omega)
   rw [←HG.out,HX.out] at this
   exact this
  have henc:enc N=pre k N++[(x:Int)]:=by
   rw [enc_pre,←HG.out,HX.out]
  have HE:Hid (enc N=pre k N++[(x:Int)]):=henc
  clear henc hbyte
  go_wp2_with (first
   |(at_builtin;refine wpList_append_fits _ rfl _ _ 84 rfl B 5 i0 1 Tryz.underlying84 hi hz1 g (n0+k) cap _ rfl (hownr.alloc _) ⟨wr.heap.size,0,none⟩ 1 1 [.int .u8 (x:Int)] rfl rfl (cell_one_new _ _ _) (by simp [Value.oneCell']) (by omega) ?_;intro w2 hown2 hgrow2))
  go_ret
  refine ⟨rfl,?_,?_⟩
  · rw [HE.out,←List.append_assoc,za2];exact hown2
  exact (hbr.alloc (by have:=hbr.size;omega) _).grown hgrow2 (by have:=hbr.size;simp;omega) (by intro j hj;cases hj;exact hgB)
theorem putUint_any (ad:Option Addr) (len cap N:Nat) (l:List Int) (w:World) (hs:Sl w ad len l) (hb:len≤140737488355328) (h1:N≤18446744073709551615):
 Calls Tryz.prog 123 #[.slice ad len cap,.int .u64 N] w fun e w'=>e=.returned (.slice (some ⟨w.heap.size,0,none⟩) (len+grp N+1) (len+(grp N+1)))∧
  w'.ownsRow w.heap.size 5 1 (.slice (some ⟨w.heap.size,0,none⟩) (len+grp N+1) (len+(grp N+1))) (len+grp N+1) (zae (l++enc N))∧Below w.heap.size w w':=by
 have hg:=grp_le N
 go_enter Tryz.func123,Tryz.ntmps123
 go_wp2_with fail
 refine (zd6 _ _ (by omega) (by omega)).mono ?_
 rintro e w' ⟨rfl,rfl⟩
 rw [Int.toNat_natCast]
 go_wp2_with fail
 rw [show ((grp N:Int)+1)=((grp N+1:Nat):Int) by omega]
 refine (zeg ad len cap (grp N+1) l _ hs (by omega)).mono ?_
 rintro e w1 ⟨rfl,hown,hbel⟩
 go_wp2_with fail
 refine (zfj w'.heap.size _ len _ N l _ hown hbel.size h1 (by omega)).mono ?_
 rintro e w2 ⟨rfl,hown2,hbel2⟩
 go_wp2
 go_ret
 exact ⟨rfl,hown2,hbel.trans hbel2⟩
theorem u8_and127 (c:Int) (h0:0≤c) (h1:c≤255):bits .and .u8 c 127=c%128:=
 bits_mask .u8 8 (by decide) wraps_u8 7 (by decide) c h0 (by omega)
theorem u8_and128 (c:Int) (h0:128≤c) (h1:c≤255):bits .and .u8 c 128=128:=by
 rw [u8_and c 128 (by omega) (by omega) (by decide) (by decide)]
 have:c.toNat &&& (128:Int).toNat=c.toNat / 2 ^ 7%2*2 ^ 7:=nat_bit 7 _
 rw [this]
 omega
theorem zfm (c:Int) (h0:0≤c) (h1:c<128):bits .and .u8 c 128=0:=by
 rw [u8_and c 128 (by omega) (by omega) (by decide) (by decide)]
 have:c.toNat &&& (128:Int).toNat=c.toNat / 2 ^ 7%2*2 ^ 7:=nat_bit 7 _
 rw [this]
 omega
theorem zcf (acc k d:Nat) (hacc:acc<128 ^ k) (hd:d<128) (hk:k<9∨k=9∧d≤1):acc+d*128 ^ k<128 ^ (k+1)∧acc+d*128 ^ k<18446744073709551616:=by
 have hp:0<128 ^ k:=Nat.pow_pos (by omega)
 have e:128 ^ (k+1)=128*128 ^ k:=by rw [Nat.pow_succ,Nat.mul_comm]
 have h2:(d+1)*128 ^ k≤128*128 ^ k:=Nat.mul_le_mul_right _ (by omega)
 rw [Nat.add_mul] at h2
 refine ⟨by omega,?_⟩
 rcases hk with h|⟨rfl,h⟩
 · have h3:128 ^ (k+1)≤128 ^ 9:=Nat.pow_le_pow_right (by omega) (by omega)
   omega
 have:d*128 ^ 9≤1*128 ^ 9:=Nat.mul_le_mul_right _ h
 omega
theorem or_acc (acc k:Nat) (c:Int) (h0:0≤c) (hacc:acc<128 ^ k) (hk:k<9∨k=9∧c≤1):
 bits .or .u64 (acc:Int) (IntKind.u64.wrap (c%128*2 ^ (7*k)))=((acc+c.toNat%128*128 ^ k:Nat):Int):=by
 have hb:=zcf acc k (c.toNat%128) hacc (by omega) (by omega)
 have e1:c%128*2 ^ (7*k)=((c.toNat%128*128 ^ k:Nat):Int):=by
  rw [Int.natCast_mul,zft]
  have:((c.toNat%128:Nat):Int)=c%128:=by omega
  rw [this]
  simp
 rw [e1,IntKind.wrap_u64,Int.emod_eq_of_lt (by omega) (by omega),u64_or_nat _ _ (by omega) (by omega),Nat.or_comm,nat_join (7*k) _ _ ?_ (by rw [←zft];exact hacc),Nat.add_comm]
 rw [←zft]
 exact Nat.mul_mod_left _ _
theorem or_acc9 (acc:Nat) (c:Int) (h0:0≤c) (h1:c≤1) (hacc:acc<128 ^ 9):
 bits .or .u64 (acc:Int) (c%128*9223372036854775808)=((acc+c.toNat%128*128 ^ 9:Nat):Int):=by
 have e:=or_acc acc 9 c h0 hacc (.inr ⟨rfl,h1⟩)
 have e2:IntKind.u64.wrap (c%128*2 ^ (7*9))=c%128*9223372036854775808:=by
  rw [IntKind.wrap_u64]
  omega
 rw [e2] at e
 exact e
theorem zcz (l:List Int) (k:Nat) (h:k<l.length):l.drop k=l.getD k 0 :: l.drop (k+1):=by
 rw [List.drop_eq_getElem_cons h]
 simp [List.getD,h]
theorem dec_more (l:List Int) (k acc:Nat) (h:k<l.length) (c:Int) (hc:l.getD k 0=c) (hk:k<9) (hge:128≤c):
 zbi (l.drop k) k acc=zbi (l.drop (k+1)) (k+1) (acc+c.toNat%128*128 ^ k):=by
 rw [zcz l k h,hc,zbi,if_neg (by omega),if_neg (by omega),if_pos hge]
theorem zer (l:List Int) (k acc:Nat) (h:k<l.length) (c:Int) (hc:l.getD k 0=c) (hk:k<10) (h0:c=0) (hp:0<k):zbi (l.drop k) k acc=(0,0):=by
 rw [zcz l k h,hc,zbi,if_neg (by omega),if_neg (by omega),if_neg (by omega),if_pos ⟨h0,hp⟩]
theorem dec_great (l:List Int) (k acc:Nat) (h:k<l.length) (c:Int) (hc:l.getD k 0=c) (hk:k=9) (h0:1<c):zbi (l.drop k) k acc=(0,0):=by
 rw [zcz l k h,hc,zbi,if_neg (by omega),if_pos ⟨hk,h0⟩]
theorem zc6 (l:List Int) (k acc:Nat) (h:k<l.length) (c:Int) (hc:l.getD k 0=c) (hk:k<9∨k=9∧c≤1) (h0:c<128) (hp:c=0→k=0):zbi (l.drop k) k acc=(acc+c.toNat%128*128 ^ k,k+1):=by
 rw [zcz l k h,hc,zbi,if_neg (by omega),if_neg (by omega),if_neg (by omega),if_neg (by omega)]
theorem dec_out (l:List Int) (k acc:Nat) (h:l.length≤k∨10≤k):zbi (l.drop k) k acc=(0,0):=by
 by_cases hl:l.length≤k
 · rw [List.drop_eq_nil_of_le hl];rfl
 rw [zcz l k (by omega),zbi,if_pos (by omega)]
theorem zbw {a b:Int} {p:Nat×Nat} (x y:Nat) (hp:p=(x,y)) (ha:a=x) (hb:b=y):Ending.returned (.tuple #[.int .u64 a,.int .i64 b])=.returned (.tuple #[.int .u64 p.1,.int .i64 p.2]):=by
 rw [hp,ha,hb]
theorem uint_pos (b off len cap:Nat) (l:List Int) (w:World) (hl:l.length=len) (hby:Byte l) (hc:∀j,j<len→w.cell? ⟨b,off+j,none⟩=some (.int .u8 (l.getD j 0))) (hp:0<len) (hb:len≤140737488355328):
 Calls Tryz.prog 108 #[.slice (some ⟨b,off,none⟩) len cap] w fun e w'=>e=.returned (.tuple #[.int .u64 (dec l).1,.int .i64 (dec l).2])∧w'=w:=by
 have hsplit:∃m:Nat,m≤len∧m≤10∧((len≤10∧m=len)∨(10<len∧m=10)):=by
  by_cases h:len≤10
  · exact ⟨len,by omega,by omega,.inl ⟨h,rfl⟩⟩
  exact ⟨10,by omega,by omega,.inr ⟨by omega,rfl⟩⟩
 obtain ⟨m,hm1,hm2,hm3⟩:=hsplit
 rcases hm3 with ⟨hm4,hm5⟩|⟨hm4,hm5⟩
 all_goals
  have hm6:m≤len∧len≤m∨m≤10∧10≤m:=by omega
  clear hm5
  have HC:Hid (∀j,j<len→w.cell? ⟨b,off+j,none⟩=some (.int .u8 (l.getD j 0))):=hc
  clear hc
  go_enter Tryz.func108,Tryz.ntmps108
  go_wp2_with fail
  go_loop [4,9] (fun n i=>∃k acc:Nat,k≤m∧i=.int .i64 k∧n=.int .u64 acc∧acc<128 ^ k∧acc≤18446744073709551615∧dec l=zbi (l.drop k) k acc) (fun _ i=>m - (intOf i).toNat)
  case atStart=>exact ⟨0,0,Nat.zero_le _,rfl,rfl,by simp,by omega,rfl⟩
  case round=>
   obtain ⟨k,acc,hk,rfl,rfl,hacc,hacc2,hdec⟩:=hrel
   have HD:Hid (dec l=zbi (l.drop k) k acc):=hdec
   have HA:Hid (acc<128 ^ k):=hacc
   clear hdec hacc
   by_cases hlt:k<m
   · have hck:=HC.out k (by omega)
     have hcb:=hby.at k
     obtain ⟨c,hcc⟩:∃c,l.getD k 0=c:=⟨_,rfl⟩
     rw [hcc] at hck hcb
     have HK:Hid (l.getD k 0=c):=hcc
     clear hcc
     have ha127:bits .and .u8 c 127=c%128:=u8_and127 c hcb.1 hcb.2
     by_cases h9:k<9
     · have hor:=or_acc acc k c hcb.1 HA.out (.inl h9)
       have hbd:=zcf acc k (c.toNat%128) HA.out (by omega) (.inl h9)
       have HB:Hid (acc+c.toNat%128*128 ^ k<128 ^ (k+1)∧acc+c.toNat%128*128 ^ k<18446744073709551616):=hbd
       clear hbd
       generalize hnew:acc+c.toNat%128*128 ^ k=new at*
       have HW:Hid (acc+c.toNat%128*128 ^ k=new):=hnew
       clear hnew
       by_cases hge:128≤c
       · have ha128:bits .and .u8 c 128=128:=u8_and128 c hge hcb.2
         go_wp2
         go_round
         case rel=>exact ⟨k+1,new,by omega,by go_num,rfl,HB.out.1,by have:=HB.out.2;omega,by rw [HD.out,dec_more l k acc (by omega) c HK.out h9 hge,HW.out]⟩
         case measure=>simp [intOf];omega
       have ha128:bits .and .u8 c 128=0:=zfm c hcb.1 (by omega)
       go_wp2
       all_goals go_ret2
       · exact ⟨zbw 0 0 (by rw [HD.out];exact zer l k acc (by omega) c HK.out (by omega) (by assumption) (by assumption)) rfl rfl,rfl⟩
       · exact ⟨zbw new (k+1) (by rw [HD.out,zc6 l k acc (by omega) c HK.out (.inl h9) (by omega) (by omega),HW.out]) rfl (by go_num),rfl⟩
       exact ⟨zbw new (k+1) (by rw [HD.out,zc6 l k acc (by omega) c HK.out (.inl h9) (by omega) (by omega),HW.out]) rfl (by go_num),rfl⟩
     obtain rfl:k=9:=by omega
     by_cases h1c:1<c
     · go_wp2
       go_ret2
       exact ⟨zbw 0 0 (by rw [HD.out];exact dec_great l 9 acc (by omega) c HK.out rfl h1c) rfl rfl,rfl⟩
     have ha128:bits .and .u8 c 128=0:=zfm c hcb.1 (by omega)
     have hor:=or_acc9 acc c hcb.1 (by omega) HA.out
     have HO:Hid (bits .or .u64 (acc:Int) (c%128*9223372036854775808)=((acc+c.toNat%128*128 ^ 9:Nat):Int)):=hor
     clear hor
     go_wp2
     all_goals go_ret2
     · exact ⟨zbw 0 0 (by rw [HD.out];exact zer l 9 acc (by omega) c HK.out (by omega) (by assumption) (by omega)) rfl rfl,rfl⟩
     exact ⟨zbw _ 10 (by rw [HD.out,zc6 l 9 acc (by omega) c HK.out (.inr ⟨rfl,by omega⟩) (by omega) (by omega)]) HO.out rfl,rfl⟩
   go_wp2
   go_ret2
   exact ⟨zbw 0 0 (by rw [HD.out];exact dec_out l k acc (by omega)) rfl rfl,rfl⟩
theorem uint_any (ad:Option Addr) (len cap:Nat) (l:List Int) (w:World) (hs:Sl w ad len l) (hb:len≤140737488355328):
 Calls Tryz.prog 108 #[.slice ad len cap] w fun e w'=>e=.returned (.tuple #[.int .u64 (dec l).1,.int .i64 (dec l).2])∧w'=w:=by
 by_cases hp:0<len
 · obtain ⟨b,off,rfl,_,hc⟩:=hs.at hp
   exact uint_pos b off len cap l w hs.len hs.byte hc hp hb
 obtain rfl:len=0:=by omega
 have hl:l=[]:=List.eq_nil_of_length_eq_zero hs.len
 subst hl
 clear hs
 go_enter Tryz.func108,Tryz.ntmps108
 go_wp2_with fail
 refine wp_loop_rounds 1 ?_
 rw [rounds_succ]
 go_wp2
 go_ret2
 exact ⟨zbw 0 0 rfl rfl rfl,rfl⟩
theorem zaa {p:Prop} (h:p):Hid p:=h
theorem zfa:∀(l:List Int) (i n:Nat),i≤10→n<128 ^ i→Byte l→(zbi l i n).1<18446744073709551616∧(zbi l i n).2≤10∧(zbi l i n).2≤i+l.length
 |[],i,n,_,_,_=>by simp [zbi]
 |c :: t,i,n,hi,hn,hb=>by
  have hc:=hb c (by simp)
  have ht:Byte t:=fun x hx=>hb x (by simp [hx])
  rw [zbi]
  split
  · simp
  split
  · simp
  rename_i h1 h2
  by_cases hge:128≤c
  · rw [if_pos hge]
    have hbd:=zcf n i (c.toNat%128) hn (by omega) (by omega)
    have:=zfa t (i+1) _ (by omega) hbd.1 ht
    simp only [List.length_cons]
    omega
  have hbd:=zcf n i (c.toNat%128) hn (by omega) (by omega)
  rw [if_neg hge]
  split
  · simp
  simp only [List.length_cons]
  omega
theorem dec_bound (l:List Int) (hb:Byte l):(dec l).1≤18446744073709551615∧(dec l).2≤10∧(dec l).2≤l.length:=by
 have:=zfa l 0 0 (by omega) (by simp) hb
 unfold dec
 omega
theorem sum_acc (acc k:Nat) (c:Int) (h0:0≤c) (hacc:acc<128 ^ k) (hk:k<9∨k=9∧c≤1):
 IntKind.u64.wrap ((acc:Int)+IntKind.u64.wrap (c%128*2 ^ (7*k)))=((acc+c.toNat%128*128 ^ k:Nat):Int):=by
 have hb:=zcf acc k (c.toNat%128) hacc (by omega) (by omega)
 have e1:c%128*2 ^ (7*k)=((c.toNat%128*128 ^ k:Nat):Int):=by
  rw [Int.natCast_mul,zft]
  have:((c.toNat%128:Nat):Int)=c%128:=by omega
  rw [this]
  simp
 rw [e1,IntKind.wrap_u64,IntKind.wrap_u64,Int.emod_eq_of_lt (b:=18446744073709551616) (a:=((c.toNat%128*128 ^ k:Nat):Int)) (by omega) (by omega),Int.emod_eq_of_lt (by omega) (by omega)]
 omega
theorem sum_acc9 (acc:Nat) (c:Int) (h0:0≤c) (h1:c≤1) (hacc:acc<128 ^ 9):
 IntKind.u64.wrap ((acc:Int)+c%128*9223372036854775808)=((acc+c.toNat%128*128 ^ 9:Nat):Int):=by
 have e:=sum_acc acc 9 c h0 hacc (.inr ⟨rfl,h1⟩)
 have e2:IntKind.u64.wrap (c%128*2 ^ (7*9))=c%128*9223372036854775808:=by
  rw [IntKind.wrap_u64]
  omega
 rw [e2] at e
 exact e
theorem refUint_pos (b off len cap:Nat) (l:List Int) (w:World) (hl:l.length=len) (hby:Byte l) (hc:∀j,j<len→w.cell? ⟨b,off+j,none⟩=some (.int .u8 (l.getD j 0))) (hp:0<len) (hb:len≤140737488355328):
 Calls Tryz.prog 96 #[.slice (some ⟨b,off,none⟩) len cap] w fun e w'=>e=.returned (.tuple #[.int .u64 (dec l).1,.int .i64 (dec l).2])∧w'=w:=by
 have HC:=zaa hc
 clear hc
 go_enter Tryz.func96,Tryz.ntmps96
 go_wp2_with fail
 go_loop [4,5] (fun n i=>∃k acc:Nat,k≤len∧k≤10∧i=.int .i64 k∧n=.int .u64 acc∧acc<128 ^ k∧acc≤18446744073709551615∧dec l=zbi (l.drop k) k acc) (fun _ i=>10 - (intOf i).toNat)
 case atStart=>exact ⟨0,0,Nat.zero_le _,Nat.zero_le _,rfl,rfl,by simp,by omega,rfl⟩
 case round=>
  obtain ⟨k,acc,hk,hk2,rfl,rfl,hacc,hacc2,hdec⟩:=hrel
  have HD:=zaa hdec
  have HA:=zaa hacc
  clear hdec hacc
  by_cases hlt:k<len
  · by_cases hlt2:k<10
    · have hck:=HC.out k (by omega)
      have hcb:=hby.at k
      obtain ⟨c,hcc⟩:∃c,l.getD k 0=c:=⟨_,rfl⟩
      rw [hcc] at hck hcb
      have HK:=zaa hcc
      clear hcc
      by_cases h9:k<9
      · have hor:=sum_acc acc k c hcb.1 HA.out (.inl h9)
        have hbd:=zcf acc k (c.toNat%128) HA.out (by omega) (.inl h9)
        have HB:=zaa hbd
        clear hbd
        generalize hnew:acc+c.toNat%128*128 ^ k=new at*
        have HW:=zaa hnew
        clear hnew
        go_wp2
        · go_round
          case rel=>exact ⟨k+1,new,by omega,by omega,by go_num,rfl,HB.out.1,by have:=HB.out.2;omega,by rw [HD.out,dec_more l k acc (by omega) c HK.out h9 (by assumption),HW.out]⟩
          case measure=>simp [intOf];omega
        · go_ret2
          exact ⟨zbw 0 0 (by rw [HD.out];exact zer l k acc (by omega) c HK.out (by omega) (by assumption) (by assumption)) rfl rfl,rfl⟩
        · go_ret2
          exact ⟨zbw new (k+1) (by rw [HD.out,zc6 l k acc (by omega) c HK.out (.inl h9) (by omega) (by omega),HW.out]) rfl (by go_num),rfl⟩
        go_ret2
        exact ⟨zbw new (k+1) (by rw [HD.out,zc6 l k acc (by omega) c HK.out (.inl h9) (by omega) (by omega),HW.out]) rfl (by go_num),rfl⟩
      obtain rfl:k=9:=by omega
      go_wp2
      · go_ret2
        exact ⟨zbw 0 0 (by rw [HD.out];exact dec_great l 9 acc (by omega) c HK.out rfl (by assumption)) rfl rfl,rfl⟩
      · go_ret2
        exact ⟨zbw 0 0 (by rw [HD.out];exact zer l 9 acc (by omega) c HK.out (by omega) (by assumption) (by omega)) rfl rfl,rfl⟩
      go_ret2
      exact ⟨zbw _ 10 (by rw [HD.out,zc6 l 9 acc (by omega) c HK.out (.inr ⟨rfl,by omega⟩) (by omega) (by omega)]) (sum_acc9 acc c hcb.1 (by omega) HA.out) rfl,rfl⟩
    go_wp2
    go_ret2
    exact ⟨zbw 0 0 (by rw [HD.out];exact dec_out l k acc (by omega)) rfl rfl,rfl⟩
  go_wp2
  all_goals go_ret2
  all_goals exact ⟨zbw 0 0 (by rw [HD.out];exact dec_out l k acc (by omega)) rfl rfl,rfl⟩
theorem refUint_any (ad:Option Addr) (len cap:Nat) (l:List Int) (w:World) (hs:Sl w ad len l) (hb:len≤140737488355328):
 Calls Tryz.prog 96 #[.slice ad len cap] w fun e w'=>e=.returned (.tuple #[.int .u64 (dec l).1,.int .i64 (dec l).2])∧w'=w:=by
 by_cases hp:0<len
 · obtain ⟨b,off,rfl,_,hc⟩:=hs.at hp
   exact refUint_pos b off len cap l w hs.len hs.byte hc hp hb
 obtain rfl:len=0:=by omega
 have hl:l=[]:=List.eq_nil_of_length_eq_zero hs.len
 subst hl
 clear hs
 go_enter Tryz.func96,Tryz.ntmps96
 go_wp2_with fail
 refine wp_loop_rounds 1 ?_
 rw [rounds_succ]
 go_wp2
 go_ret2
 exact ⟨zbw 0 0 rfl rfl rfl,rfl⟩
end Go.Proofs.YtlppibigceeimaaGreatDoor.Q
