import Derived.Test.YtlppibigceeimaaGreatDoorChB
import Derived.Test.YtlppibigceeimaaGreatDoorLen
import Derived.Laws.Bits64b
set_option linter.unusedSimpArgs false
set_option linter.unusedVariables false
set_option maxHeartbeats 40000000
set_option maxRecDepth 100000
namespace Go.Proofs.YtlppibigceeimaaGreatDoor
open Go.RowKit
structure Gv (w:World):Prop where
 wid:∀j,j<4→w.cell? ⟨1,j,none⟩=some (.int .i64 ((wds.getD j 0:Nat):Int))
 tab:∀j,j<64→w.cell? ⟨0,j,none⟩=some (.int .u8 ((Lib.deBruijn64tab.getD j 0:Nat):Int))
theorem Gv.later {w w':World} (h:Gv w) (hb:Below w.heap.size w w'):Gv w':=
 ⟨fun j hj=>by rw [hb.cell (p:=⟨1,j,none⟩) (World.block_lt_of_cell? w _ (h.wid j hj))];exact h.wid j hj,
  fun j hj=>by rw [hb.cell (p:=⟨0,j,none⟩) (World.block_lt_of_cell? w _ (h.tab j hj))];exact h.tab j hj⟩
theorem tz_key (x a:Nat) (hx:x<18446744073709551616) (hx0:x≠0) (hlow:x &&& (18446744073709551616 - x)=a):
 IntKind.u64.wrap (bits BinOp.and IntKind.u64 (x:Int) (IntKind.u64.wrap (-(x:Int)))*285870213051353865) / 288230376151711744=((a*285870213051353865%18446744073709551616 / 288230376151711744:Nat):Int):=by
 have e1:IntKind.u64.wrap (-(x:Int))=((18446744073709551616 - x:Nat):Int):=by rw [IntKind.wrap_u64];omega
 rw [e1,bits_and_u64_nat x _ hx (by omega),hlow,IntKind.wrap_u64]
 omega
theorem tz_core (x k idx:Nat) (w:World) (hx0:((x:Int)==0)=false)
 (key:IntKind.u64.wrap (bits BinOp.and IntKind.u64 (x:Int) (IntKind.u64.wrap (-(x:Int)))*285870213051353865) / 288230376151711744=(idx:Int))
 (hi:idx<64) (hk:k<64) (hcell:w.cell? ⟨0,idx,none⟩=some (.int .u8 k)):
 Calls Tryz.prog 107 #[.int .u64 x] w fun e w'=>e=.returned (.int .i64 k)∧w'=w:=by
 go_enter Tryz.func107,Tryz.ntmps107
 go_wp2_with (simp only [key])
 go_ret
 exact ⟨rfl,rfl⟩
theorem tzP (x:Nat) (w:World) (hx:x<18446744073709551616) (hx0:x≠0) (hG:Gv w):
 Calls Tryz.prog 107 #[.int .u64 (x:Int)] w fun e w'=>e=.returned (.int .i64 (bhd x:Int))∧w'=w:=by
 obtain ⟨hlow,hk⟩:=Lib.lowest_bit 64 x hx0 hx
 obtain ⟨hi,htab⟩:=Lib.deBruijn64_at _ hk
 have hcell:=hG.tab _ hi
 rw [htab] at hcell
 exact tz_core x _ _ w (by simpa using hx0) (tz_key x _ hx hx0 hlow) hi hk hcell
theorem len_uniq {x r s:Nat} (h0:0<x) (h:Q.IsLen x r) (k:Q.IsLen x s):r=s:=by
 obtain ⟨h1,h2,_⟩:=h
 obtain ⟨k1,k2,_⟩:=k
 obtain ⟨h3,h4⟩:=h2 h0
 obtain ⟨k3,k4⟩:=k2 h0
 rcases Nat.lt_trichotomy r s with hh|hh|hh
 · have:2 ^ r≤2 ^ (s - 1):=Nat.pow_le_pow_right (by omega) (by omega)
   omega
 · exact hh
 have:2 ^ s≤2 ^ (r - 1):=Nat.pow_le_pow_right (by omega) (by omega)
 omega
theorem lzP (x:Nat) (w:World) (hx:x<18446744073709551616) (hx0:0<x):
 Calls Tryz.prog 162 #[.int .u64 (x:Int)] w fun e w'=>e=.returned (.int .i64 (ahd x:Int))∧w'=w:=by
 have hb:=zfe 64 x (by omega)
 go_enter Tryz.func162,Tryz.ntmps162
 go_wp2_with fail
 refine (Q.len64_any (x:Int) w (by omega) (by omega)).mono ?_
 rintro e w' ⟨⟨r,rfl,hr⟩,rfl⟩
 rw [Int.toNat_natCast] at hr
 have hrr:r=blen 64 x:=len_uniq hx0 hr ⟨hb.1,hb.2.1,hb.2.2⟩
 have h64:=hr.2.2
 clear hr hb
 have hah:=zaa (show ahd x=64 - r by unfold ahd;rw [hrr])
 clear hrr
 have hz:(64:Int) - (r:Int)=((64 - r:Nat):Int):=by omega
 go_wp2
 go_ret
 rw [hah.out]
 exact ⟨by first|rfl|simp|(simp;omega),by first|trivial|rfl⟩
theorem spanP (x:Nat) (w:World) (hx:x<18446744073709551616) (hx0:0<x) (hG:Gv w):
 Calls Tryz.prog 147 #[.int .u64 (x:Int)] w fun e w'=>e=.returned (.tuple #[.int .i64 (ahd x:Int),.int .i64 (siz x:Int)])∧w'=w:=by
 have ha:=lzP x w hx hx0
 have ht:=tzP x w hx (by omega) hG
 have hs:=(zcu hx hx0).2.2.2.2
 unfold siz at hs ⊢
 have HA:=zaa ha
 have HT:=zaa ht
 clear ha ht hG
 generalize ahd x=a at*
 generalize bhd x=b at*
 go_enter Tryz.func147,Tryz.ntmps147
 go_wp2_with fail
 refine HA.out.mono ?_
 rintro e w' ⟨rfl,rfl⟩
 go_wp2_with fail
 refine HT.out.mono ?_
 rintro e w' ⟨rfl,rfl⟩
 go_wp2
 go_ret2
 exact ⟨by simp;omega,by first|trivial|rfl⟩
theorem low0:low 0 (cl 1)=[false]:=by decide
theorem low1:low 1 (cl 1)=[true]:=by decide
theorem cl0:cl (0:Int)=0:=by decide
theorem cl6:cl (6:Int)=6:=by decide
theorem cl7:cl (7:Int)=7:=by decide
theorem cl9:cl (9:Int)=9:=by decide
theorem cl12:cl (12:Int)=12:=by decide
theorem cl64:cl (64:Int)=64:=by decide
theorem cl_of {n:Nat} (h:n≤64):cl (n:Int)=n:=by unfold cl;omega
theorem ws_ne {w:World} {p bx:Nat} {rb:Option Nat} {L:List Bool} {ty:TypeId} {l:List Value} (h:WS w p rb L) (hB:Blk w bx ty l) (h5:ty≠5) (h81:ty≠190):¬fpt p rb bx:=by
 obtain ⟨v,R,hW⟩:=h
 rintro (e|e)
 · subst e
   have:=hB.symm.trans hW.blk
   injection this with this
   injection this with _ h2 _
   exact h81 h2
 have ho:=hW.own
 rw [e] at ho
 rcases hW.row.2 with ⟨h1,_⟩|⟨g,c,cur,h1,_,h3,_⟩
 · rw [h1] at ho
   simp [Value.ownBlock] at ho
 rw [h1] at ho
 have hg:g=bx:=by simpa [Value.ownBlock] using ho
 subst hg
 have:=hB.symm.trans h3
 injection this with this
 injection this with _ h2 _
 exact h5 h2
def WU (w w':World) (p:Nat) (rb:Option Nat) (L:List Bool):Prop:=∃rb',WS w' p rb' L∧Chg (fpt p rb) w w'∧Moved w rb rb'
theorem WU.start {w:World} {p:Nat} {rb:Option Nat} {L:List Bool} (h:WS w p rb L):WU w w p rb L:=⟨rb,h,Chg.of_below (Below.refl _ _),.inl rfl⟩
theorem WU.later {w w1 w2:World} {p:Nat} {rb:Option Nat} {L:List Bool} (h:WU w w1 p rb L) (hb:Below w1.heap.size w1 w2):WU w w2 p rb L:=by
 obtain ⟨rb',h1,h2,h3⟩:=h
 exact ⟨rb',h1.chg (Chg.of_below (F:=fun _=>False) hb) (fun _ _ e=>e),h2.trans (Chg.of_below (F:=fun _=>False) hb) (fun i _ hi=>absurd hi id),h3⟩
theorem WU.blk {w w1:World} {p bx:Nat} {rb:Option Nat} {L L0:List Bool} {ty:TypeId} {l:List Value} (h:WU w w1 p rb L) (h0:WS w p rb L0) (hB:Blk w bx ty l) (h5:ty≠5) (h81:ty≠190):Blk w1 bx ty l:=by
 obtain ⟨rb',h1,h2,h3⟩:=h
 exact h2.blk hB (ws_ne h0 hB h5 h81)
theorem WU.more {w w1 w2:World} {p:Nat} {rb rb1:Option Nat} {L:List Bool} (h2:Chg (fpt p rb) w w1) (h3:Moved w rb rb1) (k:WU w1 w2 p rb1 L):WU w w2 p rb L:=by
 obtain ⟨rb',k1,k2,k3⟩:=k
 refine ⟨rb',k1,h2.trans k2 (fun i hi hF=>?_),?_⟩
 · rcases hF with e|e
   · exact .inl e
   rcases h3 with e3|⟨g,e3,hg⟩
   · exact .inr (e3▸e)
   rw [e3] at e
   have:g=i:=Option.some.inj e
   omega
 rcases k3 with e3|⟨g,e3,hg⟩
 · rw [e3];exact h3
 exact .inr ⟨g,e3,Nat.le_trans h2.size hg⟩
theorem WU.put {w w1:World} {p:Nat} {rb:Option Nat} {L:List Bool} (h:WU w w1 p rb L) (v:Nat) (n:Int) (hv:v<18446744073709551616) (hL:L.length≤1099511627776):
 Calls Tryz.prog 145 #[.pointer (some ⟨p,0,none⟩),.int .u64 (v:Int),.int .i64 n] w1 fun e w2=>e=.returned (.tuple #[])∧WU w w2 p rb (L++low v (cl n)):=by
 obtain ⟨rb',h1,h2,h3⟩:=h
 refine (put_any p rb' L v n w1 h1 hv hL).mono ?_
 rintro e w2 ⟨rfl,rb2,k1,k2,k3⟩
 exact ⟨rfl,WU.more h2 h3 ⟨rb2,k1,k2,k3⟩⟩
theorem ix0 (w:World):(Instr.index 216 (.agg #[.int .i64 0,.int .i64 7,.int .i64 9,.int .i64 12]) (.int .i64 0)).run Tryz.prog w=.ok (.int .i64 0) w:=by kernel_rfl
theorem ix1 (w:World):(Instr.index 216 (.agg #[.int .i64 0,.int .i64 7,.int .i64 9,.int .i64 12]) (.int .i64 1)).run Tryz.prog w=.ok (.int .i64 7) w:=by kernel_rfl
theorem ix2 (w:World):(Instr.index 216 (.agg #[.int .i64 0,.int .i64 7,.int .i64 9,.int .i64 12]) (.int .i64 2)).run Tryz.prog w=.ok (.int .i64 9) w:=by kernel_rfl
theorem ix3 (w:World):(Instr.index 216 (.agg #[.int .i64 0,.int .i64 7,.int .i64 9,.int .i64 12]) (.int .i64 3)).run Tryz.prog w=.ok (.int .i64 12) w:=by kernel_rfl
def rwV (p:Nat):Value:=.agg #[.pointer (some ⟨p,0,none⟩)]
theorem putDriftP (w:World) (p:Nat) (rb:Option Nat) (L:List Bool) (d:Int) (h:WS w p rb L) (hG:Gv w) (hd:I64 d) (hL:L.length≤1000000000):
 Calls Tryz.prog 120 #[rwV p,.int .i64 d] w fun e w'=>e=.returned (.tuple #[])∧WU w w' p rb (L++drB d):=by
 have HW:=zaa h
 have HG:=zaa hG
 have hu:IntKind.u64.wrap d=(un d:Int):=by rw [u64w];unfold un;omega
 have hul:=un_lt d
 have HF:=zaa (fun w1 k hk=>fitsP d k w1 hd hk)
 have hd':=hd
 unfold I64 at hd'
 unfold rwV
 clear h hG hd
 go_enter Tryz.func120,Tryz.ntmps120
 go_wp2_with (refine zac rfl 171 (.tmp 0) rfl [.pointer (some ⟨p,0,none⟩)] rfl ?_;intro w2 B2 bl2 hz2;have HB2:=zaa B2;have HW2:=zaa (HW.out.chg (Chg.of_below (F:=fun _=>False) bl2) (fun _ _ e=>e));have HG2:=zaa (HG.out.later bl2);have HC2:=zaa (Chg.of_below (F:=fpt p rb) bl2);clear B2 bl2 hz2;have g0:=(HG2.out.wid 0 (by omega));have g1:=(HG2.out.wid 1 (by omega));have g2:=(HG2.out.wid 2 (by omega));have g3:=(HG2.out.wid 3 (by omega));simp [wds] at g0 g1 g2 g3)
 have FIN:=zaa (fun (w9:World) (L9:List Bool) (h9:WU w2 w9 p rb L9)=>WU.more HC2.out (.inl rfl) h9)
 generalize w.heap.size=bx at*
 go_loopw [7] (fun s7 wr=>∃k:Nat,s7=.int .i64 (k:Int)∧k≤4∧Hid (∀j,j<k→¬fit d (wds.getD j 0))∧Hid (WU w2 wr p rb (L++List.replicate k true))) (fun s7 _=>4 - (intOf s7).toNat)
 case atStart=>exact ⟨0,rfl,by omega,zaa (fun j hj=>by omega),zaa (by simpa using WU.start HW2.out)⟩
 case round=>
  rename World=>wr
  obtain ⟨k,rfl,hk,hno,hW⟩:=hrel
  have c0:=(hW.out.blk HW2.out HB2.out (by decide) (by decide)).cell 0
  simp at c0
  by_cases hk4:k<4
  · have hkz:(k:Int)<4:=by omega
    have hcase:k=0∨k=1∨k=2∨k=3:=by omega
    rcases hcase with rfl|rfl|rfl|rfl
    · rw [show ((0:Nat):Int)=0 from rfl]
      have hix:=ix0
      go_wp2_with fail
      refine (HF.out wr 0 (by omega)).mono ?_
      rintro e w3 ⟨rfl,rfl⟩
      by_cases hf:fit d 0
      · simp only [hf,decide_true]
        have HD:=zaa (dr0 hf)
        clear hf
        go_wp2_with fail
        refine (hW.out.put 0 1 (by omega) (by simp;omega)).mono ?_
        rintro e w4 ⟨rfl,h4⟩
        have H4:=zaa h4
        have c4:=(h4.blk HW2.out HB2.out (by decide) (by decide)).cell 0
        simp at c4
        clear h4
        go_wp2_with fail
        refine (H4.out.put (un d) 0 hul (by simp [low0];omega)).mono ?_
        rintro e w5 ⟨rfl,h5⟩
        have H5:=zaa h5
        clear h5
        go_wp2
        refine bodyPost_ret (results_none rfl _ _ _) rfl ?_
        refine ⟨rfl,?_⟩
        have h6:=FIN.out _ _ H5.out
        rw [low0,cl0] at h6
        rw [HD.out]
        simpa [low] using h6
      simp only [hf,decide_false]
      have HF':=zaa hf
      clear hf
      go_wp2_with fail
      refine (hW.out.put 1 1 (by omega) (by simp;omega)).mono ?_
      rintro e w4 ⟨rfl,h4⟩
      rw [low1] at h4
      have H4:=zaa h4
      clear h4
      go_wp2
      refine ⟨⟨0+1,by first|rfl|simp,by omega,zaa (fun j hj=>?_),by simpa using H4⟩,?_⟩
      · by_cases ej:j=0
        · subst ej;exact HF'.out
        exact hno.out j (by omega)
      simp [intOf]
    · rw [show ((1:Nat):Int)=1 from rfl]
      have hix:=ix1
      go_wp2_with fail
      refine (HF.out wr 7 (by omega)).mono ?_
      rintro e w3 ⟨rfl,rfl⟩
      by_cases hf:fit d 7
      · simp only [hf,decide_true]
        have HD:=zaa (dr1 (hno.out 0 (by omega)) hf)
        clear hf
        go_wp2_with fail
        refine (hW.out.put 0 1 (by omega) (by simp;omega)).mono ?_
        rintro e w4 ⟨rfl,h4⟩
        have H4:=zaa h4
        have c4:=(h4.blk HW2.out HB2.out (by decide) (by decide)).cell 0
        simp at c4
        clear h4
        go_wp2_with fail
        refine (H4.out.put (un d) 7 hul (by simp [low0];omega)).mono ?_
        rintro e w5 ⟨rfl,h5⟩
        have H5:=zaa h5
        clear h5
        go_wp2
        refine bodyPost_ret (results_none rfl _ _ _) rfl ?_
        refine ⟨rfl,?_⟩
        have h6:=FIN.out _ _ H5.out
        rw [low0,cl7] at h6
        rw [HD.out]
        simpa using h6
      simp only [hf,decide_false]
      have HF':=zaa hf
      clear hf
      go_wp2_with fail
      refine (hW.out.put 1 1 (by omega) (by simp;omega)).mono ?_
      rintro e w4 ⟨rfl,h4⟩
      rw [low1] at h4
      have H4:=zaa h4
      clear h4
      go_wp2
      refine ⟨⟨1+1,by first|rfl|simp,by omega,zaa (fun j hj=>?_),by simpa using H4⟩,?_⟩
      · by_cases ej:j=1
        · subst ej;exact HF'.out
        exact hno.out j (by omega)
      simp [intOf]
    · rw [show ((2:Nat):Int)=2 from rfl]
      have hix:=ix2
      go_wp2_with fail
      refine (HF.out wr 9 (by omega)).mono ?_
      rintro e w3 ⟨rfl,rfl⟩
      by_cases hf:fit d 9
      · simp only [hf,decide_true]
        have HD:=zaa (dr2 (hno.out 0 (by omega)) (hno.out 1 (by omega)) hf)
        clear hf
        go_wp2_with fail
        refine (hW.out.put 0 1 (by omega) (by simp;omega)).mono ?_
        rintro e w4 ⟨rfl,h4⟩
        have H4:=zaa h4
        have c4:=(h4.blk HW2.out HB2.out (by decide) (by decide)).cell 0
        simp at c4
        clear h4
        go_wp2_with fail
        refine (H4.out.put (un d) 9 hul (by simp [low0];omega)).mono ?_
        rintro e w5 ⟨rfl,h5⟩
        have H5:=zaa h5
        clear h5
        go_wp2
        refine bodyPost_ret (results_none rfl _ _ _) rfl ?_
        refine ⟨rfl,?_⟩
        have h6:=FIN.out _ _ H5.out
        rw [low0,cl9] at h6
        rw [HD.out]
        simpa using h6
      simp only [hf,decide_false]
      have HF':=zaa hf
      clear hf
      go_wp2_with fail
      refine (hW.out.put 1 1 (by omega) (by simp;omega)).mono ?_
      rintro e w4 ⟨rfl,h4⟩
      rw [low1] at h4
      have H4:=zaa h4
      clear h4
      go_wp2
      refine ⟨⟨2+1,by first|rfl|simp,by omega,zaa (fun j hj=>?_),by simpa using H4⟩,?_⟩
      · by_cases ej:j=2
        · subst ej;exact HF'.out
        exact hno.out j (by omega)
      simp [intOf]
    rw [show ((3:Nat):Int)=3 from rfl]
    have hix:=ix3
    go_wp2_with fail
    refine (HF.out wr 12 (by omega)).mono ?_
    rintro e w3 ⟨rfl,rfl⟩
    by_cases hf:fit d 12
    · simp only [hf,decide_true]
      have HD:=zaa (dr3 (hno.out 0 (by omega)) (hno.out 1 (by omega)) (hno.out 2 (by omega)) hf)
      clear hf
      go_wp2_with fail
      refine (hW.out.put 0 1 (by omega) (by simp;omega)).mono ?_
      rintro e w4 ⟨rfl,h4⟩
      have H4:=zaa h4
      have c4:=(h4.blk HW2.out HB2.out (by decide) (by decide)).cell 0
      simp at c4
      clear h4
      go_wp2_with fail
      refine (H4.out.put (un d) 12 hul (by simp [low0];omega)).mono ?_
      rintro e w5 ⟨rfl,h5⟩
      have H5:=zaa h5
      clear h5
      go_wp2
      refine bodyPost_ret (results_none rfl _ _ _) rfl ?_
      refine ⟨rfl,?_⟩
      have h6:=FIN.out _ _ H5.out
      rw [low0,cl12] at h6
      rw [HD.out]
      simpa using h6
    simp only [hf,decide_false]
    have HF':=zaa hf
    clear hf
    go_wp2_with fail
    refine (hW.out.put 1 1 (by omega) (by simp;omega)).mono ?_
    rintro e w4 ⟨rfl,h4⟩
    rw [low1] at h4
    have H4:=zaa h4
    clear h4
    go_wp2
    refine ⟨⟨3+1,by first|rfl|simp,by omega,zaa (fun j hj=>?_),by simpa using H4⟩,?_⟩
    · by_cases ej:j=3
      · subst ej;exact HF'.out
      exact hno.out j (by omega)
    simp [intOf]
  have hkz:¬(k:Int)<4:=by omega
  obtain rfl:k=4:=by omega
  have HD:=zaa (dr4 (hno.out 0 (by omega)) (hno.out 1 (by omega)) (hno.out 2 (by omega)) (hno.out 3 (by omega)))
  go_wp2_with fail
  refine (hW.out.put (un d) 64 hul (by simp;omega)).mono ?_
  rintro e w3 ⟨rfl,h3⟩
  have H3:=zaa h3
  clear h3
  go_wp2
  go_end0
  refine ⟨rfl,?_⟩
  have:=FIN.out _ _ H3.out
  rw [List.append_assoc,cl64] at this
  rw [HD.out]
  exact this
theorem zds {x:Int} (h0:-9223372036854775808≤x) (h1:x≤9223372036854775807):IntKind.i64.wrap x=x:=by
 simp [IntKind.wrap,IntKind.signed,IntKind.bits]
 omega
theorem putFlipsP (w:World) (p:Nat) (rb:Option Nat) (L:List Bool) (x:Nat) (h:WS w p rb L) (hG:Gv w) (hx:x<18446744073709551616) (hL:L.length≤1000000000):
 Calls Tryz.prog 121 #[rwV p,.int .u64 (x:Int)] w fun e w'=>e=.returned (.tuple #[])∧WU w w' p rb (L++flB x):=by
 have HW:=zaa h
 have HG:=zaa hG
 unfold rwV
 clear h hG
 go_enter Tryz.func121,Tryz.ntmps121
 by_cases hx0:x=0
 · subst hx0
   go_wp2_with (refine zac rfl 171 (.tmp 0) rfl [.pointer (some ⟨p,0,none⟩)] rfl ?_;intro w2 B2 bl2 hz2;have HB2:=zaa B2;have c2:=B2.cell 0;simp at c2;have HW2:=zaa (HW.out.chg (Chg.of_below (F:=fun _=>False) bl2) (fun _ _ e=>e));have HC2:=zaa (Chg.of_below (F:=fpt p rb) bl2);clear B2 bl2 hz2)
   refine ((WU.start HW2.out).put 0 1 (by omega) (by omega)).mono ?_
   rintro e w3 ⟨rfl,h3⟩
   have H3:=zaa (WU.more HC2.out (.inl rfl) h3)
   clear h3
   go_wp2
   refine bodyPost_ret (results_none rfl _ _ _) rfl ?_
   refine ⟨rfl,?_⟩
   have h6:=H3.out
   rw [low0] at h6
   simpa [flB] using h6
 have hx0z:¬(x:Int)=0:=by omega
 obtain ⟨s1,s2,s3,s4,s5⟩:=zcu hx (by omega)
 have SP:=zaa (fun wx (hg:Gv wx)=>spanP x wx hx (by omega) hg)
 have HFL:=zaa (show flB x=[true]++low (ahd x) 6++low (siz x - 1) 6++low (x / 2 ^ bhd x) (siz x) by unfold flB;rw [if_neg hx0])
 generalize ahd x=a at*
 generalize siz x=s at*
 generalize bhd x=b at*
 have hz1:(64:Int) - (a:Int) - (s:Int)=(b:Int):=by omega
 have hz2:(s:Int) - 1=((s - 1:Nat):Int):=by omega
 have hb63:b≤63:=by omega
 have hdiv:x / 2 ^ b<18446744073709551616:=Nat.lt_of_le_of_lt (Nat.div_le_self _ _) hx
 go_wp2_with (refine zac rfl 171 (.tmp 0) rfl [.pointer (some ⟨p,0,none⟩)] rfl ?_;intro w2 B2 bl2 hz2;have HB2:=zaa B2;have c2:=B2.cell 0;simp at c2;have HW2:=zaa (HW.out.chg (Chg.of_below (F:=fun _=>False) bl2) (fun _ _ e=>e));have HG2:=zaa (HG.out.later bl2);have HC2:=zaa (Chg.of_below (F:=fpt p rb) bl2);clear B2 bl2 hz2)
 have FIN:=zaa (fun (w9:World) (L9:List Bool) (h9:WU w2 w9 p rb L9)=>WU.more HC2.out (.inl rfl) h9)
 generalize w.heap.size=bx at*
 refine (SP.out w2 HG2.out).mono ?_
 rintro e w3 ⟨rfl,rfl⟩
 go_wp2_with fail
 refine ((WU.start HW2.out).put 1 1 (by omega) (by omega)).mono ?_
 rintro e w4 ⟨rfl,h4⟩
 rw [low1] at h4
 have H4:=zaa h4
 have c4:=(h4.blk HW2.out HB2.out (by decide) (by decide)).cell 0
 simp at c4
 clear h4
 go_wp2_with fail
 refine (H4.out.put a 6 (by omega) (by simp;omega)).mono ?_
 rintro e w5 ⟨rfl,h5⟩
 rw [cl6] at h5
 have H5:=zaa h5
 have c5:=(h5.blk HW2.out HB2.out (by decide) (by decide)).cell 0
 simp at c5
 clear h5
 go_wp2_with fail
 refine (H5.out.put (s - 1) 6 (by omega) (by simp [low];omega)).mono ?_
 rintro e w6 ⟨rfl,h6⟩
 rw [cl6] at h6
 have H6:=zaa h6
 have c6:=(h6.blk HW2.out HB2.out (by decide) (by decide)).cell 0
 simp at c6
 clear h6
 go_wp2_with fail
 have HL6:Hid ((L++[true]++low a 6++low (s - 1) 6).length≤1099511627776):=zaa (by simp [low];omega)
 have H6w:=zaa (fun (wx:World) (hb:Below w6.heap.size w6 wx)=>(H6.out.later hb).put (x / 2 ^ b) (s:Int) hdiv HL6.out)
 obtain ⟨c,hc⟩:∃c,64 - a=c:=⟨_,rfl⟩
 have hw1:IntKind.i64.wrap (64 - (a:Int))=(c:Int):=by rw [zds (by omega) (by omega)];omega
 have hw2:IntKind.i64.wrap ((c:Int) - (s:Int))=(b:Int):=by rw [zds (by omega) (by omega)];omega
 have hsh:Op.shift .shr .u64 (x:Int) .i64 (b:Int)=pure (.int .u64 ((x / 2 ^ b:Nat):Int)):=by
  rw [shift_shr .u64 .i64 _ _ (by omega) (by simp [IntKind.bits];omega),Int.toNat_natCast]
  congr 2
 clear hc hz1 hz2
 go_region_with (refine (H6w.out _ ((Below.refl _ _).drew)).mono ?_;rintro e w7 ⟨rfl,h7⟩)
 all_goals
  have H7:=zaa (FIN.out _ _ h7)
  clear h7
  go_wp2
  go_end0
  refine ⟨rfl,?_⟩
  have h8:=H7.out
  rw [cl_of s3] at h8
  rw [HFL.out]
  simpa using h8
def smV (s:Sm):Value:=.agg #[.int .i64 s.t,.int .u64 (s.v:Int)]
theorem putFirstP (w:World) (p:Nat) (rb:Option Nat) (L:List Bool) (s:Sm) (h:WS w p rb L) (ht:I64 s.t) (hv:s.v<18446744073709551616) (hL:L.length≤1000000000):
 Calls Tryz.prog 118 #[rwV p,smV s] w fun e w'=>e=.returned (.tuple #[])∧WU w w' p rb (L++fiB s):=by
 have HW:=zaa h
 obtain ⟨t,v⟩:=s
 simp only at ht hv
 have hu:IntKind.u64.wrap t=(un t:Int):=by rw [u64w];unfold un;omega
 have hul:=un_lt t
 unfold I64 at ht
 unfold rwV smV
 simp only []
 clear h
 go_enter Tryz.func118,Tryz.ntmps118
 go_wp2_with (first
  |(refine zac rfl 171 (.tmp 0) rfl [.pointer (some ⟨p,0,none⟩)] rfl ?_;intro w2 B2 bl2 hz2;have HB2:=zaa B2;have HL2:=zaa bl2;clear B2 bl2 hz2)
  |(refine zac rfl 53 (.tmp 1) rfl [.int .i64 t,.int .u64 (v:Int)] rfl ?_;intro w3 B3 bl3 hz3;have HB3:=zaa B3;have HB2':=zaa (HB2.out.later bl3);have HL3:=zaa (HL2.out.trans (bl3.mono HL2.out.size));clear B3 bl3 hz3;have c2:=HB2'.out.cell 0;have c3:=HB3.out.cell 0;have c4:=HB3.out.cell 1;simp at c2 c3 c4))
 have HW3:=zaa (HW.out.chg (Chg.of_below (F:=fun _=>False) HL3.out) (fun _ _ e=>e))
 have HC3:=zaa (Chg.of_below (F:=fpt p rb) HL3.out)
 have FIN:=zaa (fun (w9:World) (L9:List Bool) (h9:WU w3 w9 p rb L9)=>WU.more HC3.out (.inl rfl) h9)
 refine ((WU.start HW3.out).put (un t) 64 hul (by omega)).mono ?_
 rintro e w4 ⟨rfl,h4⟩
 rw [cl64] at h4
 have H4:=zaa h4
 have d2:=(h4.blk HW3.out HB2'.out (by decide) (by decide)).cell 0
 have d3:=(h4.blk HW3.out HB3.out (by decide) (by decide)).cell 1
 simp at d2 d3
 clear h4 c2 c3 c4
 go_wp2_with fail
 refine (H4.out.put v 64 hv (by simp [low];omega)).mono ?_
 rintro e w5 ⟨rfl,h5⟩
 rw [cl64] at h5
 have H5:=zaa (FIN.out _ _ h5)
 clear h5
 go_wp2
 go_end0
 refine ⟨rfl,?_⟩
 have h8:=H5.out
 simpa [fiB] using h8
end Go.Proofs.YtlppibigceeimaaGreatDoor
