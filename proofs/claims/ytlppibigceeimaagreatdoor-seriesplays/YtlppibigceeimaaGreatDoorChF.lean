import Derived.Test.YtlppibigceeimaaGreatDoorChC
import Derived.Test.YtlppibigceeimaaGreatDoorNumB
import Derived.Laws.Bits64
set_option linter.unusedSimpArgs false
set_option linter.unusedVariables false
set_option maxHeartbeats 40000000
set_option maxRecDepth 100000
namespace Go.Proofs.YtlppibigceeimaaGreatDoor
open Go.RowKit
theorem i64w (x:Int):IntKind.i64.wrap x=wr x:=by rw [IntKind.wrap_i64];rfl
def trV (a:Tr):Value:=.agg #[.int .i64 a.t,.int .u64 (a.v:Int),.int .i64 a.st]
theorem flips_lt {x y:Nat} (hx:x<18446744073709551616) (hy:y<18446744073709551616):x ^^^ y<18446744073709551616:=Nat.xor_lt_two_pow (n:=64) hx hy
theorem toP (w:World) (a:Tr) (s:Sm) (ht:I64 s.t) (hv:s.v<18446744073709551616) (hat:I64 a.t) (has:I64 a.st) (hav:a.v<18446744073709551616):
 Calls Tryz.prog 119 #[trV a,smV s] w fun e w'=>e=.returned (.tuple #[.int .i64 (a.drift s),.int .u64 (a.flips s:Int)])∧Below w.heap.size w w':=by
 have hxor:=bits_xor_u64_nat s.v a.v hv hav
 have hW1:=i64w (s.t - a.t)
 have hW2:=i64w (wr (s.t - a.t) - a.st)
 have HD:=zaa (show a.drift s=wr (wr (s.t - a.t) - a.st) from rfl)
 have HF:=zaa (show a.flips s=s.v ^^^ a.v from rfl)
 unfold trV smV
 obtain ⟨t,v⟩:=s
 obtain ⟨at',av,ast⟩:=a
 simp only at hxor hW1 hW2 HD HF ht hv hat has hav
 simp only []
 rw [HD.out,HF.out]
 clear HD HF
 generalize wr (wr (t - at') - ast)=dd at*
 generalize wr (t - at')=ee at*
 generalize v ^^^ av=ff at*
 go_enter Tryz.func119,Tryz.ntmps119
 go_wp2_with (first
  |(refine zac rfl 173 (.tmp 0) rfl [.int .i64 at',.int .u64 (av:Int),.int .i64 ast] rfl ?_;intro w2 B2 bl2 hz2;have HB2:=zaa B2;have HL2:=zaa bl2;clear B2 bl2 hz2)
  |(refine zac rfl 53 (.tmp 1) rfl [.int .i64 t,.int .u64 (v:Int)] rfl ?_;intro w3 B3 bl3 hz3;have HB3:=zaa B3;have HB2':=zaa (HB2.out.later bl3);have HL3:=zaa (HL2.out.trans (bl3.mono HL2.out.size));clear B3 bl3 hz3;have c2:=HB2'.out.cell 0;have c3:=HB2'.out.cell 1;have c4:=HB2'.out.cell 2;have c5:=HB3.out.cell 0;have c6:=HB3.out.cell 1;simp at c2 c3 c4 c5 c6))
 go_quiet (fail)
 go_wp2
 go_ret2
 exact ⟨by simp,zah HL3.out _⟩
theorem sizeP (w:World) (p:Nat) (rb:Option Nat) (L:List Bool) (h:WS w p rb L) (hL:L.length≤1000000000000):
 Calls Tryz.prog 104 #[rwV p] w fun e w'=>e=.returned (.int .i64 (((L.length+7) / 8:Nat):Int))∧Below w.heap.size w w':=by
 have HW:=zaa h
 unfold rwV
 obtain ⟨n,hn⟩:∃n,L.length=n:=⟨_,rfl⟩
 have HN:=zaa hn
 rw [hn] at hL ⊢
 clear h hn
 go_enter Tryz.func104,Tryz.ntmps104
 go_wp2_with (refine zac rfl 171 (.tmp 0) rfl [.pointer (some ⟨p,0,none⟩)] rfl ?_;intro w2 B2 bl2 hz2;have HL2:=zaa bl2;have c2:=B2.cell 0;simp at c2;have HW2:=zaa (HW.out.chg (Chg.of_below (F:=fun _=>False) bl2) (fun _ _ e=>e));clear B2 bl2 hz2)
 refine (len_any p rb L w2 HW2.out).mono ?_
 rintro e w3 ⟨rfl,rfl⟩
 rw [HN.out]
 have hq:Int.tdiv ((n:Int)+8 - 1) 8=(((n+7) / 8:Nat):Int):=by rw [Int.tdiv_eq_ediv_of_nonneg (by omega)];omega
 go_wp2
 go_ret
 exact ⟨by simp,HL2.out⟩
theorem countP (w:World) (n:Nat) (hn:n≤1000000000):
 Calls Tryz.prog 103 #[.int .i64 (n:Int)] w fun e w'=>e=.returned (.slice (some ⟨w.heap.size,0,none⟩) (0+Q.grp n+1) (0+(Q.grp n+1)))∧
  w'.ownsRow w.heap.size 5 1 (.slice (some ⟨w.heap.size,0,none⟩) (0+Q.grp n+1) (0+(Q.grp n+1))) (0+Q.grp n+1) (zae ([]++Q.enc n))∧Below w.heap.size w w':=by
 go_enter Tryz.func103,Tryz.ntmps103
 go_wp2_with fail
 refine (Q.putUint_any none 0 0 n [] w (Sl.nil _ _) (by omega) (by omega)).mono ?_
 rintro e w1 ⟨rfl,h1,h2⟩
 have H1:=zaa h1
 have H2:=zaa h2
 clear h1 h2
 go_wp2
 go_ret
 exact ⟨by simp,H1.out,H2.out⟩
theorem res_by (tmps:Array Value) (w:World) (g:Nat) (a b c:Value) (hp:tmps.getD 6 undef=.pointer (some ⟨g,0,none⟩)) (h0:w.cell? ⟨g,0,none⟩=some a) (h1:w.cell? ⟨g,1,none⟩=some b) (h2:w.cell? ⟨g,2,none⟩=some c) (ha:a.oneCell'=true) (hb:b.oneCell'=true) (hc:c.oneCell'=true):
 (results Tryz.f122 tmps).run Tryz.prog w=.ok (.agg #[a,b,c]) w:=by
 have h:Tryz.f122.results=#[.cell 6 173]:=by kernel_rfl
 have hp':tmps[6]?.getD undef=.pointer (some ⟨g,0,none⟩):=by simpa using hp
 simp [results,h,hp',asAddr,loadVar,h0,h1,h2,go_sem]
theorem byP (w:World) (a:Tr) (d:Int) (x:Nat) (hd:I64 d) (hx:x<18446744073709551616) (hat:I64 a.t) (has:I64 a.st) (hav:a.v<18446744073709551616):
 Calls Tryz.prog 122 #[trV a,.int .i64 d,.int .u64 (x:Int)] w fun e w'=>e=.returned (trV (a.by' d x))∧Below w.heap.size w w':=by
 have hxor:=bits_xor_u64_nat a.v x hav hx
 have hW1:=i64w (a.st+d)
 have hW2:=i64w (a.t+wr (a.st+d))
 have HD:=zaa (show trV (a.by' d x)=.agg #[.int .i64 (wr (a.t+wr (a.st+d))),.int .u64 ((a.v ^^^ x:Nat):Int),.int .i64 (wr (a.st+d))] from rfl)
 rw [HD.out]
 unfold trV
 obtain ⟨at',av,ast⟩:=a
 simp only at hxor hW1 hW2 hat has hav
 simp only []
 clear HD
 have hr1:=zbv (at'+wr (ast+d))
 have hr2:=zbv (ast+d)
 generalize wr (at'+wr (ast+d))=dd at*
 generalize wr (ast+d)=ee at*
 generalize av ^^^ x=ff at*
 unfold I64 at*
 go_enter Tryz.func122,Tryz.ntmps122
 go_wp2_with (refine zac rfl 173 (.tmp 0) rfl [.int .i64 at',.int .u64 (av:Int),.int .i64 ast] rfl ?_;intro w2 B2 bl2 hz2;have HL2:=zaa bl2;have hlt2:=B2.lt;have c2:=(B2.alloc (.cells #[.int .i64 0,.int .u64 0,.int .i64 0] 173)).cell 0;have c3:=(B2.alloc (.cells #[.int .i64 0,.int .u64 0,.int .i64 0] 173)).cell 1;have c4:=(B2.alloc (.cells #[.int .i64 0,.int .u64 0,.int .i64 0] 173)).cell 2;simp only [List.getElem?_cons_zero,List.getElem?_cons_succ] at c2 c3 c4;clear B2 bl2 hz2)
 have hN:=Blk.new w2 173 [.int .i64 dd,.int .u64 (ff:Int),.int .i64 ee]
 refine bodyPost_ret (res_by _ _ w2.heap.size (.int .i64 dd) (.int .u64 (ff:Int)) (.int .i64 ee) rfl (hN.cell 0) (hN.cell 1) (hN.cell 2) rfl rfl rfl) rfl ?_
 exact ⟨rfl,HL2.out.alloc HL2.out.size _⟩
def chC (most:Int) (n:Nat) (a:Tr) (p:Nat):List Value:=[.int .i64 most,.int .i64 (n:Int),.int .i64 a.t,.int .u64 (a.v:Int),.int .i64 a.st,.pointer (some ⟨p,0,none⟩)]
def tz3:List Value:=[.int .i64 0,.int .u64 0,.int .i64 0]
theorem info53:(Tryz.prog.info? 173).map (fun i=>i.zero.map (·.cells))=some (some tz3.toArray):=by kernel_rfl
theorem res_put (tmps:Array Value) (w:World) (g:Nat) (a b c:Value) (hp:tmps.getD 4 undef=.pointer (some ⟨g,0,none⟩)) (h0:w.cell? ⟨g,0,none⟩=some a) (h1:w.cell? ⟨g,1,none⟩=some b) (h2:w.cell? ⟨g,2,none⟩=some c):
 (results Tryz.f102 tmps).run Tryz.prog w=.ok (.agg #[a,b,c]) w:=by
 have h:Tryz.f102.results=#[.cell 4 173]:=by kernel_rfl
 have hp':tmps[4]?.getD undef=.pointer (some ⟨g,0,none⟩):=by simpa using hp
 simp [results,h,hp',asAddr,loadVar,h0,h1,h2,go_sem]
def onB (n:Nat) (a:Tr) (s:Sm):List Bool:=if n=0 then fiB s else drB (a.drift s)++flB (a.flips s)
def onT (n:Nat) (a:Tr) (s:Sm):Tr:=if n=0 then tr0 s else a.next s
theorem WU.sets {w w4:World} {p g:Nat} {rb:Option Nat} {L:List Bool} {ty:TypeId} {l0:List Value} (h:WU w w4 p rb L) (hB:Blk w4 g ty l0) (h5:ty≠5) (h81:ty≠190) (hg:w.heap.size≤g) (l:List Value):WU w (w4.setCells g 0 l) p rb L:=by
 obtain ⟨rb',h1,h2,h3⟩:=h
 have hc:=Chg.sets g l 0 w4
 refine ⟨rb',h1.chg hc (fun i hi e=>?_),h2.trans hc (fun i hi e=>by omega),h3⟩
 subst e
 exact ws_ne h1 hB h5 h81 hi
theorem WU.base {w w3 w4:World} {p:Nat} {rb:Option Nat} {L:List Bool} (h:WU w3 w4 p rb L) (hb:Below w.heap.size w w3):WU w w4 p rb L:=WU.more (Chg.of_below hb) (.inl rfl) h
theorem WS.later {w w':World} {p:Nat} {rb:Option Nat} {L:List Bool} (h:WS w p rb L) (hb:Below w.heap.size w w'):WS w' p rb L:=h.chg (Chg.of_below (F:=fun _=>False) hb) (fun _ _ e=>e)
theorem drB_len (d:Int):(drB d).length≤68:=by
 unfold drB
 repeat' split
 all_goals simp [zaq]
theorem size53:(Tryz.prog.info? 173).map (·.size)=some 3:=by kernel_rfl
theorem zgf (a:Tr) (s:Sm):I64 (a.drift s):=zbv _
theorem zen {a:Tr} {s:Sm} (ha:Ok a) (hs:OkS s):a.flips s<18446744073709551616:=flips_lt hs.v ha.v
theorem Gv.wu {w w':World} {p:Nat} {rb:Option Nat} {L:List Bool} (h:Gv w) (hu:WU w w' p rb L) (hlo:1<p∧∀i,rb=some i→1<i):Gv w':=by
 obtain ⟨rb',h1,h2,h3⟩:=hu
 have key:∀g,g≤1→¬fpt p rb g:=by
  rintro g hg (e|e)
  · omega
  have:=hlo.2 g e;omega
 exact ⟨fun j hj=>by
  have hc:=h.wid j hj
  rw [World.cell?_of_block (w:=w) (h2.block 1 (World.block_lt_of_cell? w _ hc) (key 1 (by omega)))];exact hc,
  fun j hj=>by
   have hc:=h.tab j hj
   rw [World.cell?_of_block (w:=w) (h2.block 0 (World.block_lt_of_cell? w _ hc) (key 0 (by omega)))];exact hc⟩
theorem first_x {w w3 wx:World} {p gs gt:Nat} {rb:Option Nat} {L:List Bool} {s:Sm} {ls lt:List Value} (hs:OkS s) (hW:WS w3 p rb L) (hL:L.length≤900000000) (hb0:Below w.heap.size w w3) (hS:Blk w3 gs 53 ls) (hT:Blk w3 gt 173 lt) (hb:Below w3.heap.size w3 wx):
 Calls Tryz.prog 118 #[.agg #[.pointer (some ⟨p,0,none⟩)],.agg #[.int .i64 s.t,.int .u64 (s.v:Int)]] wx fun e w'=>e=.returned (.tuple #[])∧WU w w' p rb (L++fiB s)∧Blk w' gs 53 ls∧Blk w' gt 173 lt:=by
 refine (putFirstP wx p rb L s (hW.later hb) hs.t hs.v (by omega)).mono ?_
 rintro e w' ⟨rfl,hu⟩
 exact ⟨rfl,hu.base (hb0.trans (hb.mono hb0.size)),hu.blk (hW.later hb) (hS.later hb) (by decide) (by decide),hu.blk (hW.later hb) (hT.later hb) (by decide) (by decide)⟩
theorem cputP (w:World) (c p:Nat) (rb:Option Nat) (most:Int) (n:Nat) (a:Tr) (L:List Bool) (s:Sm) (hB:Blk w c 175 (chC most n a p)) (h:WS w p rb L) (hG:Gv w) (ha:Ok a) (hs:OkS s) (hn:n≤1000000000) (hL:L.length≤900000000) (hlo:1<p∧∀i,rb=some i→1<i):
 Calls Tryz.prog 102 #[.pointer (some ⟨c,0,none⟩),smV s] w fun e w'=>e=.returned (trV (onT n a s))∧WU w w' p rb (L++onB n a s):=by
 have HB:=zaa hB
 have HW:=zaa h
 have HG:=zaa hG
 have hst:=hs.t
 unfold I64 at hst
 have hsv:=hs.v
 have HS:=zaa hs
 have HA:=zaa ha
 clear hB h hG hs ha
 unfold smV
 go_enter Tryz.func102,Tryz.ntmps102
 by_cases hn0:n=0
 · subst hn0
   have HE:=zaa (show trV (onT 0 a s)=.agg #[.int .i64 s.t,.int .u64 (s.v:Int),.int .i64 0] from rfl)
   have HO:=zaa (show onB 0 a s=fiB s from rfl)
   go_wp2_with (first
    |(refine zac rfl 53 (.tmp 1) rfl [.int .i64 s.t,.int .u64 (s.v:Int)] rfl ?_;intro w2 B2 bl2 hz2;have HB2:=zaa B2;have HL2:=zaa bl2;clear B2 bl2 hz2)
    |(refine zap rfl 173 rfl 4 rfl tz3 info53 ?_;intro w3 B3 bl3 hz3;have HB3:=zaa B3;have HB2':=zaa (HB2.out.later bl3);have HL3:=zaa (HL2.out.trans (bl3.mono HL2.out.size));clear B3 bl3 hz3;have HBc:=zaa (HB.out.later HL3.out);have c1:=HBc.out.cell 1;have c5:=HBc.out.cell 5;simp [chC] at c1 c5;have d0:=HB2'.out.cell 0;have d1:=HB2'.out.cell 1;simp at d0 d1))
   have HP:=zaa (fun (wx:World) (hb:Below w3.heap.size w3 wx)=>first_x HS.out (HW.out.later HL3.out) hL HL3.out HB2'.out HB3.out hb)
   have hg4:=HL2.out.size
   go_region_with (refine (HP.out _ ((Below.refl _ _).drew)).mono ?_;rintro e w4 ⟨rfl,h4,S4,T4⟩)
   all_goals
    have H4:=zaa h4
    have HS4:=zaa S4
    have HT4:=zaa T4
    have e0:=S4.cell 0
    have e1:=S4.cell 1
    simp at e0 e1
    clear h4 S4 T4
    go_wp2_with (refine za5 rfl 173 (.tmp 4) (.tmp 19) rfl rfl w2.heap.size (l:=[.int .i64 s.t,.int .u64 (s.v:Int),.int .i64 0]) HT4.out rfl rfl rfl size53 (by intro v hv;simp at hv;rcases hv with rfl|rfl|rfl <;> rfl) ?_)
    have hN:=zb0 (l:=[.int .i64 s.t,.int .u64 (s.v:Int),.int .i64 0]) HT4.out rfl
    refine bodyPost_ret (res_put _ _ w2.heap.size _ _ _ rfl (hN.cell 0) (hN.cell 1) (hN.cell 2)) rfl ?_
    rw [HE.out,HO.out]
    exact ⟨rfl,H4.out.sets HT4.out (by decide) (by decide) hg4 _⟩
 have hn0z:¬(n:Int)=0:=by omega
 have HE:Hid (trV (onT n a s)=.agg #[.int .i64 s.t,.int .u64 (s.v:Int),.int .i64 (wr (s.t - a.t))]):=zaa (by unfold onT;rw [if_neg hn0];rfl)
 have HO:Hid (onB n a s=drB (a.drift s)++flB (a.flips s)):=zaa (by unfold onB;rw [if_neg hn0])
 have HY:Hid (trV (a.by' (a.drift s) (a.flips s))=.agg #[.int .i64 s.t,.int .u64 (s.v:Int),.int .i64 (wr (s.t - a.t))]):=zaa (by rw [by_next a s HS.out.t];rfl)
 have TO:=zaa (fun wx=>toP wx a s HS.out.t HS.out.v HA.out.t HA.out.s HA.out.v)
 have BY:=zaa (fun wx=>byP wx a (a.drift s) (a.flips s) (zgf a s) (zen HA.out HS.out) HA.out.t HA.out.s HA.out.v)
 have PD:=zaa (fun wx rb L hw hg hl=>putDriftP wx p rb L (a.drift s) hw hg (zgf a s) hl)
 have PF:=zaa (fun wx rb L hw hg hl=>putFlipsP wx p rb L (a.flips s) hw hg (zen HA.out HS.out) hl)
 have hfl:=zen HA.out HS.out
 have hdl:=drB_len (a.drift s)
 have hdi:=zgf a s
 rw [HO.out,HE.out]
 unfold trV smV at TO
 unfold rwV at PD PF
 unfold trV at BY HY
 generalize a.drift s=dd at*
 generalize a.flips s=ff at*
 generalize a.by' dd ff=nx at*
 unfold I64 at hdi
 go_wp2_with (first
  |(refine zac rfl 53 (.tmp 1) rfl [.int .i64 s.t,.int .u64 (s.v:Int)] rfl ?_;intro w2 B2 bl2 hz2;have HB2:=zaa B2;have HL2:=zaa bl2;clear B2 bl2 hz2)
  |(refine zap rfl 173 rfl 4 rfl tz3 info53 ?_;intro w3 B3 bl3 hz3;have HB3:=zaa B3;have HB2':=zaa (HB2.out.later bl3);have HL3:=zaa (HL2.out.trans (bl3.mono HL2.out.size));clear B3 bl3 hz3;have HBc:=zaa (HB.out.later HL3.out);have c1:=HBc.out.cell 1;have c2:=HBc.out.cell 2;have c3:=HBc.out.cell 3;have c4:=HBc.out.cell 4;have c5:=HBc.out.cell 5;simp [chC] at c1 c2 c3 c4 c5;have d0:=HB2'.out.cell 0;have d1:=HB2'.out.cell 1;simp at d0 d1))
 have hg4:=HL2.out.size
 go_region_with (refine (TO.out _).mono ?_;rintro e w4 ⟨rfl,b4⟩)
 all_goals
  have L4:=zaa (show Below w3.heap.size w3 w4 from ((Below.refl _ _).drew).trans b4)
  have Z4:=zaa (HL3.out.trans (L4.out.mono HL3.out.size))
  have BC4:=zaa (HBc.out.later L4.out)
  have BT4:=zaa (HB3.out.later L4.out)
  have e5:=BC4.out.cell 5
  simp [chC] at e5
  clear b4
  have W4:=zaa (HW.out.later Z4.out)
  go_wp2_with fail
  refine (PD.out w4 rb L W4.out (HG.out.later Z4.out) (by omega)).mono ?_
  rintro e w5 ⟨rfl,h5⟩
  have BC5:=zaa (h5.blk W4.out BC4.out (by decide) (by decide))
  have BT5:=zaa (h5.blk W4.out BT4.out (by decide) (by decide))
  have G5:=zaa ((HG.out.later Z4.out).wu h5 hlo)
  obtain ⟨rb5,k1,k2,k3⟩:=h5
  have K1:=zaa k1
  have K2:=zaa k2
  have K3:=zaa k3
  clear k1 k2 k3
  have f5:=BC5.out.cell 5
  simp [chC] at f5
  go_wp2_with fail
  refine (PF.out w5 rb5 _ K1.out G5.out (by simp;omega)).mono ?_
  rintro e w6 ⟨rfl,h6⟩
  have BC6:=zaa (h6.blk K1.out BC5.out (by decide) (by decide))
  have BT6:=zaa (h6.blk K1.out BT5.out (by decide) (by decide))
  have U6:=zaa ((WU.more K2.out K3.out h6).base Z4.out)
  have g2:=BC6.out.cell 2
  have g3:=BC6.out.cell 3
  have g4:=BC6.out.cell 4
  simp [chC] at g2 g3 g4
  clear h6
  go_wp2_with fail
  refine (BY.out w6).mono ?_
  rintro e w7 ⟨rfl,b7⟩
  rw [HY.out]
  have BT7:=zaa (BT6.out.later b7)
  have U7:=zaa (U6.out.later b7)
  clear b7
  go_wp2_with (refine za5 rfl 173 (.tmp 4) (.tmp 47) rfl rfl w2.heap.size (l:=[.int .i64 s.t,.int .u64 (s.v:Int),.int .i64 (wr (s.t - a.t))]) BT7.out rfl rfl rfl size53 (by intro v hv;simp at hv;rcases hv with rfl|rfl|rfl <;> rfl) ?_)
  have hN:=zb0 (l:=[.int .i64 s.t,.int .u64 (s.v:Int),.int .i64 (wr (s.t - a.t))]) BT7.out rfl
  refine bodyPost_ret (res_put _ _ w2.heap.size _ _ _ rfl (hN.cell 0) (hN.cell 1) (hN.cell 2)) rfl ?_
  refine ⟨rfl,?_⟩
  have h8:=U7.out.sets BT7.out (by decide) (by decide) hg4 [.int .i64 s.t,.int .u64 (s.v:Int),.int .i64 (wr (s.t - a.t))]
  rw [←List.append_assoc]
  exact h8
def EntS (k:Nat):Ent Lat:=⟨fun v _=>∃ad c',v=.slice ad k c',fun _ _ _ h _=>h⟩
theorem app_r4 (c p n gk sk:Nat) (most:Int) (w:World) (a0:Act) (Q:Exit→Act→World→Prop) (hsz:a0.tmps.size=55)
 (s9:a0.tmps.getD 9 undef=.int .i64 ((n:Int)+1))
 (s0:a0.tmps.getD 0 undef=.pointer (some ⟨c,0,none⟩))
 (hc0:∀w1,Lat w w1→w1.cell? ⟨c,0,none⟩=some (.int .i64 most))
 (hc5:∀w1,Lat w w1→w1.cell? ⟨c,5,none⟩=some (.pointer (some ⟨p,0,none⟩)))
 (hadd:IntKind.i64.wrap ((gk:Int)+(sk:Int))=(gk:Int)+(sk:Int))
 (hco:∀wx,Calls Tryz.prog 103 #[.int .i64 ((n:Int)+1)] wx fun e w'=>∃ad c',e=.returned (.slice ad gk c')∧Lat wx w')
 (hsi:∀wx,Lat w wx→Calls Tryz.prog 104 #[.agg #[.pointer (some ⟨p,0,none⟩)]] wx fun e w'=>e=.returned (.int .i64 (sk:Int))∧Lat wx w')
 (hQ:∀(v26 v27 v28 v29 v30 v31 v32 v33 v34 v35 v36 v37 v38 v39:Value) (w1:World),Lat w w1→v39=.bool (decide ((gk:Int)+(sk:Int) > most))→Q .normal ((((((((((((((a0.put (some 26) v26).put (some 27) v27).put (some 28) v28).put (some 29) v29).put (some 30) v30).put (some 31) v31).put (some 32) v32).put (some 33) v33).put (some 34) v34).put (some 35) v35).put (some 36) v36).put (some 37) v37).put (some 38) v38).put (some 39) v39) w1):
 Code.wp Tryz.prog ((Tryz.f84.body.bind (zag 4)).getD .skip) Q a0 w:=by
 conv=>arg 2;whnf
 refine zay Lat (TE [Ent.val (.int .i64 ((n:Int)+1)),EntS gk,Ent.val (.int .i64 (gk:Int)),Ent.val (.pointer (some ⟨c,0,none⟩)),Ent.val (.pointer (some ⟨c,0,none⟩)),Ent.val (.pointer (some ⟨c,5,none⟩)),Ent.val (.agg #[.pointer (some ⟨p,0,none⟩)]),Ent.val (.int .i64 (sk:Int)),Ent.val (.int .i64 ((gk:Int)+(sk:Int))),Ent.val (.pointer (some ⟨c,0,none⟩)),Ent.val (.pointer (some ⟨c,0,none⟩)),Ent.val (.pointer (some ⟨c,0,none⟩)),Ent.val (.int .i64 most),Ent.val (.bool (decide ((gk:Int)+(sk:Int) > most)))]) (by kernel_rfl) (by kernel_rfl) (by kernel_rfl) (by rw [hsz];kernel_rfl) (by kernel_rfl) Lat.refl Lat.trans (za4 _) (Lat.draw w) ?hop ?hdone
 case hdone=>
  intro a w1 hL hS hT
  have he:=zam hS
  rw [he]
  exact hQ (a.tmps.getD 26 undef) (a.tmps.getD 27 undef) (a.tmps.getD 28 undef) (a.tmps.getD 29 undef) (a.tmps.getD 30 undef) (a.tmps.getD 31 undef) (a.tmps.getD 32 undef) (a.tmps.getD 33 undef) (a.tmps.getD 34 undef) (a.tmps.getD 35 undef) (a.tmps.getD 36 undef) (a.tmps.getD 37 undef) (a.tmps.getD 38 undef) (a.tmps.getD 39 undef) w1 hL (hT 13 _ rfl)
 case hop=>
  intro i o hi
  have hlt:i<14:=(Array.getElem?_eq_some_iff.1 hi).1
  rcases (show i=0∨i=1∨i=2∨i=3∨i=4∨i=5∨i=6∨i=7∨i=8∨i=9∨i=10∨i=11∨i=12∨i=13 by omega) with rfl|rfl|rfl|rfl|rfl|rfl|rfl|rfl|rfl|rfl|rfl|rfl|rfl|rfl
  all_goals obtain rfl:=Option.some.inj hi
  all_goals clear hi hlt
  all_goals intro a w1 hL hS hD
  · exact zye rfl (by simp [execOp,Act.eval,zs hS s9,go_sem])
  · have d0:=zde hD 0 26
    refine zat rfl ?_
    refine zbb (f:=103) (args:=#[.int .i64 ((n:Int)+1)]) (by simp [execOp,resolve,Act.eval,d0,go_sem]) ?_
    refine (hco w1).mono ?_
    rintro e w2 ⟨ad5,c5,rfl,b5⟩
    exact ⟨_,rfl,b5,ad5,c5,rfl⟩
  · have d1:=hD ⟨1,.data⟩ (by simp) rfl _ rfl
    refine zat rfl ?_
    obtain ⟨ad5,c5,h5⟩:=d1
    have h7:a.tmps.getD 27 undef=.slice ad5 gk c5:=h5
    have h6:a.tmps[27]?.getD undef=.slice ad5 gk c5:=by simpa using h7
    exact zbu Lat.refl (.int .i64 (gk:Int)) (by simp [execOp,resolve,invoke,builtin,Act.eval,h6,go_sem]) rfl
  · exact zye rfl (by simp [execOp,Act.eval,zs hS s0,go_sem])
  · exact zye rfl (by simp [execOp,Act.eval,zde hD 3 29,go_sem])
  · exact zye rfl (by simp [execOp,Act.eval,zde hD 4 30,go_sem])
  · exact zye rfl (by simp [execOp,Act.eval,zde hD 5 31,hc5 w1 hL,go_sem])
  · have d6:=zde hD 6 32
    refine zat rfl ?_
    refine zbb (f:=104) (args:=#[.agg #[.pointer (some ⟨p,0,none⟩)]]) (by simp [execOp,resolve,Act.eval,d6,go_sem]) ?_
    refine (hsi w1 hL).mono ?_
    rintro e w2 ⟨rfl,b6⟩
    exact ⟨_,rfl,b6,rfl⟩
  · exact zye rfl (by simp [execOp,Act.eval,zde hD 2 28,zde hD 7 33,hadd,go_sem])
  · exact zye rfl (by simp [execOp,Act.eval,zs hS s0,go_sem])
  · exact zye rfl (by simp [execOp,Act.eval,zde hD 9 35,go_sem])
  · exact zye rfl (by simp [execOp,Act.eval,zde hD 10 36,go_sem])
  · exact zye rfl (by simp [execOp,Act.eval,zde hD 11 37,hc0 w1 hL,go_sem])
  exact zye rfl (by simp [execOp,Act.eval,zde hD 8 34,zde hD 12 38,go_sem])
def APp (w w':World) (c p:Nat) (rb:Option Nat) (most:Int) (n:Nat) (a:Tr) (L:List Bool):Prop:=
 Blk w' c 175 (chC most n a p)∧∃rb',WS w' p rb' L∧Chg (fun i=>fpt p rb i∨i=c) w w'∧Moved w rb rb'
def room (most:Int) (n:Nat) (L:List Bool):Prop:=((Q.grp n+1+(L.length+7) / 8:Nat):Int)≤most
instance (most:Int) (n:Nat) (L:List Bool):Decidable (room most n L):=by unfold room;infer_instance
theorem flB_len {x:Nat} (hx:x<18446744073709551616):(flB x).length≤77:=by
 unfold flB
 split
 · simp
 have:=zcu hx (by omega)
 simp [zaq]
 omega
theorem onB_len {n:Nat} {a:Tr} {s:Sm} (ha:Ok a) (hs:OkS s):(onB n a s).length≤145:=by
 unfold onB
 split
 · simp [fiB,zaq]
 have:=drB_len (a.drift s)
 have:=flB_len (zen ha hs)
 simp
 omega
theorem zbg (w:World) (c o:Nat) (u:Value):Chg (fun i=>i=c) w (w.setCell ⟨c,o,none⟩ u):=
 ⟨rfl,rfl,rfl,by simp [World.setCell],fun i _ hne=>heap_setCell_other w ⟨c,o,none⟩ i u (fun e=>hne e)⟩
theorem count_x (w:World) (n:Nat) (hn:n≤1000000):
 Calls Tryz.prog 103 #[.int .i64 ((n:Int)+1)] w fun e w'=>∃ad c',e=.returned (.slice ad (Q.grp (n+1)+1) c')∧Below w.heap.size w w':=by
 have h:=countP w (n+1) (by omega)
 rw [show (((n+1:Nat):Int))=(n:Int)+1 by omega] at h
 refine h.mono ?_
 rintro e w' ⟨rfl,_,hb⟩
 exact ⟨some ⟨w.heap.size,0,none⟩,0+(Q.grp (n+1)+1),by rw [Nat.zero_add],hb⟩
theorem appendP (w:World) (c p:Nat) (rb:Option Nat) (most:Int) (n:Nat) (a:Tr) (L:List Bool) (s:Sm) (hB:Blk w c 175 (chC most n a p)) (h:WS w p rb L) (hG:Gv w) (ha:Ok a) (hs:OkS s) (hn:n≤1000000) (hL:L.length≤900000000) (hlo:1<p∧∀i,rb=some i→1<i) (hm:I64 most):
 Calls Tryz.prog 84 #[.pointer (some ⟨c,0,none⟩),.int .i64 s.t,.int .u64 (s.v:Int)] w fun e w'=>
  e=.returned (.bool (decide (room most (n+1) (L++onB n a s))))∧if room most (n+1) (L++onB n a s) then APp w w' c p rb most (n+1) (onT n a s) (L++onB n a s) else APp w w' c p rb most n a L:=by
 have HB:=zaa hB
 have HW:=zaa h
 have HP:=zaa (cputP w c p rb most n a L s hB h hG ha hs (by omega) hL hlo)
 have hol:=onB_len (n:=n) ha hs
 have hst:=hs.t
 have hsv:=hs.v
 unfold I64 at hst hm
 have c0:=hB.cell 0
 have c1:=hB.cell 1
 have c5:=hB.cell 5
 simp [chC] at c0 c1 c5
 unfold smV trV at HP
 generalize onB n a s=O at*
 generalize onT n a s=b at*
 clear hB h hG ha hs
 go_enter Tryz.func84,Tryz.ntmps84
 go_wp2_with fail
 refine (len_any p rb L w HW.out).mono ?_
 rintro e w1 ⟨rfl,rfl⟩
 go_wp2_with fail
 refine HP.out.mono ?_
 rintro e w2 ⟨rfl,h2⟩
 have BC2:=zaa (h2.blk HW.out HB.out (by decide) (by decide))
 have U2:=zaa h2
 clear h2
 go_wp2_with (first
  |(refine zap rfl 173 rfl 8 rfl tz3 info53 ?_;intro w3 B3 bl3 hz3;have HB3:=zaa B3;have BC3:=zaa (BC2.out.later bl3);have U3:=zaa (U2.out.later bl3);have hg3:=U2.out;clear B3 bl3 hz3)
  |(refine za5 rfl 173 (.tmp 8) (.tmp 20) rfl rfl w2.heap.size (l:=[.int .i64 b.t,.int .u64 (b.v:Int),.int .i64 b.st]) HB3.out rfl rfl rfl size53 (by intro v hv;simp at hv;rcases hv with rfl|rfl|rfl <;> rfl) ?_;have d1:=(Blk.setsOff [.int .i64 b.t,.int .u64 (b.v:Int),.int .i64 b.st] 0 w2.heap.size w3 _ BC3.out (by have:=BC2.out.lt;omega)).cell 1;simp [chC] at d1))
 have hbc:=BC2.out.lt
 have hsz2:w1.heap.size≤w2.heap.size:=by obtain ⟨_,_,hq,_⟩:=U2.out;exact hq.size
 have BC4:=zaa (Blk.setsOff [.int .i64 b.t,.int .u64 (b.v:Int),.int .i64 b.st] 0 w2.heap.size w3 _ BC3.out (by omega))
 have BE4:=zaa (zb0 (l:=[.int .i64 b.t,.int .u64 (b.v:Int),.int .i64 b.st]) HB3.out rfl)
 have U4:=zaa (U3.out.sets HB3.out (by decide) (by decide) hsz2 [.int .i64 b.t,.int .u64 (b.v:Int),.int .i64 b.st])
 generalize w3.setCells w2.heap.size 0 [.int .i64 b.t,.int .u64 (b.v:Int),.int .i64 b.st]=w4 at*
 generalize w2.heap.size=ge at*
 clear HB3 BC3 U3 hg3 BC2 U2 d1 HP
 have d0:=BC4.out.cell 0
 have d5:=BC4.out.cell 5
 simp [chC] at d0 d5
 obtain ⟨rb4,k1,k2,k3⟩:=U4.out
 have K1:=zaa k1
 have K2:=zaa k2
 have K3:=zaa k3
 clear k1 k2 k3
 have hgr:=Q.grp_le (n+1)
 have CO:=zaa (fun wx=>count_x wx n (by omega))
 have SZ:=zaa (fun (wx:World) (hb:Below w4.heap.size w4 wx)=>sizeP wx p rb4 (L++O) (K1.out.later hb) (by simp;omega))
 have hlen:((L++O).length+7) / 8≤1000000000:=by simp;omega
 unfold rwV at SZ
 obtain ⟨gk,hgkE⟩:∃gk,Q.grp (n+1)+1=gk:=⟨_,rfl⟩
 obtain ⟨sk,hskE⟩:∃sk,((L++O).length+7) / 8=sk:=⟨_,rfl⟩
 have hgk:gk≤100:=by omega
 have HR:Hid (room most (n+1) (L++O)↔(gk:Int)+(sk:Int)≤most):=zaa (by unfold room;omega)
 simp only [hgkE] at CO
 simp only [hskE] at SZ
 rw [hskE] at hlen
 clear hgkE hskE
 have hadd:IntKind.i64.wrap ((gk:Int)+(sk:Int))=(gk:Int)+(sk:Int):=zds (by omega) (by omega)
 have C0:=zaa (fun (w1:World) (hl:Lat w4 w1)=>by have:=(BC4.out.later hl).cell 0;simpa [chC] using this)
 have C5:=zaa (fun (w1:World) (hl:Lat w4 w1)=>by have:=(BC4.out.later hl).cell 5;simpa [chC] using this)
 refine app_r4 c p n gk sk most w4 _ _ (by rfl) (by rfl) (by rfl) C0.out C5.out hadd CO.out SZ.out ?_
 intro v26 v27 v28 v29 v30 v31 v32 v33 v34 v35 v36 v37 v38 v39 w5 hL5 h39
 subst h39
 have BC5:=zaa (BC4.out.later hL5)
 have BE5:=zaa (BE4.out.later hL5)
 have K5:=zaa (K1.out.later hL5)
 have K2':=zaa (K2.out.trans (Chg.of_below (F:=fun _=>False) hL5) (fun _ _ e=>absurd e id))
 clear hL5 d0 d5 C0 C5 CO SZ c0 c1 c5 hadd hgr hlen hsz2 hbc
 simp only [Act.put,List.setIfInBounds_toArray,List.set_cons_succ,List.set_cons_zero]
 by_cases hr:(gk:Int)+(sk:Int) > most
 · have hr':¬room most (n+1) (L++O):=mt HR.out.1 (Int.not_le.2 hr)
   have HNR:=zaa hr'
   clear hr'
   have e5:=BC5.out.cell 5
   simp [chC] at e5
   go_wp2_with fail
   refine (cut_any p rb4 (L++O) (L.length:Int) w5 K5.out (by simp;omega)).mono ?_
   rintro e w6 ⟨rfl,k6,ch6⟩
   have B6:=zaa (ch6.blk BC5.out (ws_ne K5.out BC5.out (by decide) (by decide)))
   have U6:=zaa (WU.more K2'.out K3.out ⟨rb4,k6,ch6,.inl rfl⟩)
   clear k6 ch6
   go_wp2
   go_ret
   refine ⟨by simp [HNR.out],?_⟩
   have hfin:APp w1 w6 c p rb most n a L:=by
    refine ⟨B6.out,?_⟩
    obtain ⟨rb7,q1,q2,q3⟩:=U6.out
    rw [Int.toNat_natCast,List.take_left] at q1
    exact ⟨rb7,q1,q2.mono (fun i _ hi=>.inl hi),q3⟩
   first|exact hfin|(rw [if_neg HNR.out];exact hfin)
 have hr':room most (n+1) (L++O):=HR.out.2 (Int.not_lt.1 hr)
 have HNR:=zaa hr'
 clear hr'
 have e1:=BC5.out.cell 1
 have e2:=BC5.out.cell 2
 have e3:=BC5.out.cell 3
 have e4:=BC5.out.cell 4
 have f1:=BC5.out.frozen 1
 have f2:=BC5.out.frozen 2
 have f3:=BC5.out.frozen 3
 have f4:=BC5.out.frozen 4
 have g0:=BE5.out.cell 0
 have g1:=BE5.out.cell 1
 have g2:=BE5.out.cell 2
 simp [chC] at e1 e2 e3 e4 g0 g1 g2
 have hne:¬ge=c:=fun e=>by
  subst e
  have h1:=BC5.out.symm.trans BE5.out
  injection h1 with h1
  injection h1 with _ h2 _
  exact absurd h2 (by decide)
 have hne':¬c=ge:=fun e=>hne e.symm
 go_wp2_with fail
 go_region
 have B9:=zaa ((((BC5.out.set 1 (.int .i64 ((n:Int)+1))).set 2 (.int .i64 b.t)).set 3 (.int .u64 (b.v:Int))).set 4 (.int .i64 b.st))
 have C9:=zaa (((((zbg w5 c 1 (.int .i64 ((n:Int)+1))).trans (zbg _ c 2 (.int .i64 b.t)) (fun _ _ e=>e)).trans (zbg _ c 3 (.int .u64 (b.v:Int))) (fun _ _ e=>e)).trans (zbg _ c 4 (.int .i64 b.st)) (fun _ _ e=>e)))
 have K9:=zaa (K5.out.chg C9.out (fun i hi e=>by subst e;exact ws_ne K5.out BC5.out (by decide) (by decide) hi))
 have Z9:=zaa ((K2'.out.mono (G:=fun i=>fpt p rb i∨i=c) (fun i _ hi=>.inl hi)).trans C9.out (fun i _ hi=>.inr hi))
 have hcell:chC most (n+1) b p=((((chC most n a p).set 1 (.int .i64 ((n:Int)+1))).set 2 (.int .i64 b.t)).set 3 (.int .u64 (b.v:Int))).set 4 (.int .i64 b.st):=by simp [chC]
 have HCE:=zaa hcell
 clear hcell e1 e2 e3 e4 f1 f2 f3 f4 g0 g1 g2
 go_wp2
 go_ret
 refine ⟨by simp [HNR.out],?_⟩
 exact ⟨by rw [HCE.out];exact B9.out,rb4,K9.out.chg (Chg.drew (fun _=>False) _) (fun _ _ e=>e),Z9.out.trans (Chg.drew (fun _=>False) _) (fun _ _ e=>absurd e id),K3.out⟩
end Go.Proofs.YtlppibigceeimaaGreatDoor
