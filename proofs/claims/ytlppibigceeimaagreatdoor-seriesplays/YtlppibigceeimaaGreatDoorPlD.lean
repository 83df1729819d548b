import Derived.Test.YtlppibigceeimaaGreatDoorPlC
import Derived.Lib.ConvBytes
import Derived.Lib.SmallJoins
set_option linter.unusedSimpArgs false
set_option linter.unusedVariables false
set_option maxHeartbeats 40000000
set_option maxRecDepth 100000
namespace Go.Proofs.YtlppibigceeimaaGreatDoor.K
open Go.RowKit
theorem kyI:Ky Tryz.prog 3 K3 (.int .i64):=ky_int Tryz.underlying3
theorem kyS:Ky Tryz.prog 9 Value.string .string:=ky_string Tryz.underlying9
theorem zero75 (w:World):(zeroValue 131).run Tryz.prog w=.ok (leV ⟨#[]⟩ ⟨#[]⟩) w:=by kernel_rfl
theorem zfk (w:World):(zeroValue 118).run Tryz.prog w=.ok (.map none) w:=by kernel_rfl
theorem Pl.cells {w:World} {p n g tb ob:Nat} {ow:ByteArray→Option Nat} {st:Sx} (h:Pl w p n g tb ob ow st):
 w.cell? ⟨p,0,none⟩=some (.int .i64 (n:Int))∧w.cell? ⟨p,1,none⟩=some (.slice (some ⟨g,0,none⟩) ((n+63) / 64) ((n+63) / 64))∧w.cell? ⟨p,2,none⟩=some (.map (some tb))∧w.cell? ⟨p,3,none⟩=some (.map (some ob)):=
 ⟨h.blk.cell 0,h.blk.cell 1,h.blk.cell 2,h.blk.cell 3⟩
theorem Pl.lookO {w:World} {p n g tb ob:Nat} {ow:ByteArray→Option Nat} {st:Sx} (h:Pl w p n g tb ob ow st) (o:ByteArray):(Instr.lookup 67 (.map (some ob)) (.string o) false).run Tryz.prog w=.ok (.map (ow o)) w:=by
 obtain ⟨lo,h1,h2⟩:=h.own
 have:=h1.look kyS Tryz.underlying67 (zfk w) o false
 rw [h2 o] at this
 rw [this]
 cases ow o <;> rfl
theorem Pl.lookT {w:World} {p n g tb ob:Nat} {ow:ByteArray→Option Nat} {st:Sx} (h:Pl w p n g tb ob ow st) (k:Int):(Instr.lookup 66 (.map (some tb)) (.int .i64 k) true).run Tryz.prog w=.ok (.tuple #[(al (tkL st n) k).getD (leV ⟨#[]⟩ ⟨#[]⟩),.bool (al (tkL st n) k).isSome]) w:=by
 have:=h.tk.look kyI Tryz.underlying66 (zero75 w) k true
 rw [if_pos rfl] at this
 exact this
theorem Pl.lenS {w:World} {p n g tb ob:Nat} {ow:ByteArray→Option Nat} {st:Sx} (h:Pl w p n g tb ob ow st) (o:ByteArray) (ty:TypeId):(Builtin.len_ #[118] ty #[.map (ow o)]).run Tryz.prog w=.ok (.int .i64 ((setL st n o).length:Int)) w:=by
 cases e:ow o with
 |none=>
  rw [h.non o e]
  exact Maps.len_nil Tryz.underlying118 ty
 |some sb=>exact (h.set o sb e).1.len Tryz.underlying118 ty
theorem tkL_len (st:Sx) (n:Nat):(tkL st n).length≤n:=by
 have:=List.length_filterMap_le (fun i=>(st i).map fun x=>((i:Int),leV x.1 x.2)) (List.range n)
 rw [List.length_range] at this
 exact this
theorem leftP (p n g tb ob:Nat) (ow:ByteArray→Option Nat) (st:Sx) (w:World) (h:Pl w p n g tb ob ow st):Calls Tryz.prog 19 #[.pointer (some ⟨p,0,none⟩)] w fun e w'=>e=.returned (.int .i64 ((n - (tkL st n).length:Nat):Int))∧Below w.heap.size w w':=by
 obtain ⟨c0,c1,c2,c3⟩:=h.cells
 have hl:=fun (w':World) (hb:Below w.heap.size w w') (ty:TypeId)=>(h.tk.later hb).len (P:=Tryz.prog) Tryz.underlying66 ty
 have hn:=h.n1
 have hle:=tkL_len st n
 obtain ⟨T,hT⟩:∃T,(tkL st n).length=T:=⟨_,rfl⟩
 rw [hT] at hl hle ⊢
 have e1:(n:Int) - (T:Int)=((n - T:Nat):Int):=by omega
 have hl2:=hl w.drew (zah (Below.refl _ _) 1) 3
 have hl1:=hl w (Below.refl _ _) 3
 clear h hT hl c1 c3
 go_enter Tryz.func19,Tryz.ntmps19
 go_wp2_with fail
 go_region
 all_goals
  go_wp2_with fail
  go_ret
  exact ⟨by first|rfl|(rw [←e1]),zah (Below.refl _ _) 1⟩
theorem usedP (o:ByteArray) (p n g tb ob:Nat) (ow:ByteArray→Option Nat) (st:Sx) (w:World) (h:Pl w p n g tb ob ow st):Calls Tryz.prog 28 #[.pointer (some ⟨p,0,none⟩),.string o] w fun e w'=>e=.returned (.int .i64 ((setL st n o).length:Int))∧w'=w:=by
 obtain ⟨c0,c1,c2,c3⟩:=h.cells
 have l1:=h.lookO o
 have l2:=h.lenS o 3
 clear h c0 c1 c2
 generalize ow o=x at*
 generalize ((setL st n o).length:Int)=T at*
 go_enter Tryz.func28,Tryz.ntmps28
 go_wp2_with fail
 go_ret
 exact ⟨rfl,rfl⟩
theorem get_none (k:Int) (p n g tb ob:Nat) (ow:ByteArray→Option Nat) (st:Sx) (w:World) (h:Pl w p n g tb ob ow st) (hk:al (tkL st n) k=none):Calls Tryz.prog 57 #[.pointer (some ⟨p,0,none⟩),.int .i64 k] w fun e w'=>e=.returned (.tuple #[.slice none 0 0,.int .i64 111])∧Below w.heap.size w w':=by
 obtain ⟨c0,c1,c2,c3⟩:=h.cells
 have l1:=h.lookT k
 rw [hk] at l1
 simp only [Option.getD_none,Option.isSome_none,leV] at l1
 clear h hk c0 c1 c3
 go_enter Tryz.func57,Tryz.ntmps57
 go_wp2_with fail
 go_ret2
 exact ⟨rfl,(Below.refl _ _).alloc (Nat.le_refl _) _⟩
def bts (d:ByteArray):List Int:=d.data.toList.map fun (x:UInt8)=>(x.toNat:Int)
theorem bts_length (d:ByteArray):(bts d).length=d.size:=by simp [bts]
theorem bts_byte (d:ByteArray):Byte (bts d):=by
 intro n hn
 obtain ⟨x,_,rfl⟩:=List.mem_map.1 hn
 have:=x.toNat_lt
 omega
theorem sl_bytes (w:World) (d:ByteArray):Sl (Lib.bytesWorld w 5 d) (some ⟨w.heap.size,0,none⟩) d.size (bts d):=by
 refine ⟨bts_length d,bts_byte d,fun j hj=>⟨_,rfl,?_⟩⟩
 rw [Addr.add_lit,Nat.zero_add,Lib.bytesWorld_cell w 5 d j hj]
 congr 2
 have hl:j<d.data.size:=hj
 simp only [bts,List.getD,List.getElem?_map,Array.getElem?_toList,Array.getElem?_eq_getElem hl]
 rfl
theorem releaseP (i p n g tb ob:Nat) (st:Sx) (w:World) (hi:i<n) (n1:1≤n∧n≤65536)
 (hB:Blk w p 69 [.int .i64 (n:Int),.slice (some ⟨g,0,none⟩) ((n+63) / 64) ((n+63) / 64),.map (some tb),.map (some ob)]) (hF:Fr w g ((n+63) / 64) (fun j=>decide (j<n) && (st j).isNone)) (hT:Ml K3 w tb (tkL st n)):
 Calls Tryz.prog 71 #[.pointer (some ⟨p,0,none⟩),.int .i64 (i:Int)] w fun e w'=>e=.returned (.tuple #[])∧Fr w' g ((n+63) / 64) (fun j=>decide (j<n) && (upS st i none j).isNone)∧Ml K3 w' tb (tkL (upS st i none) n)∧Chg (fun j=>j=g∨j=tb) w w':=by
 obtain ⟨m,hm⟩:∃m,(n+63) / 64=m:=⟨_,rfl⟩
 have hmn:n≤64*m:=by omega
 rw [hm] at hB hF ⊢
 clear hm
 have c1:=hB.cell 1
 have c2:=hB.cell 2
 simp only [List.getElem?_cons_zero,List.getElem?_cons_succ] at c1 c2
 obtain ⟨w1,r1,t1,k1,z1⟩:=hT.drop (P:=Tryz.prog) (ty:=0) kyI Tryz.underlying66 (i:Int)
 have hpt:¬p=tb:=fun e=>hT.tg 69 (e▸hB.tg)
 have hgt:¬g=tb:=fun e=>hT.tg 51 (e▸hF.tg)
 have B1:=k1.blk hB hpt
 have d1:=B1.cell 1
 simp only [List.getElem?_cons_zero,List.getElem?_cons_succ] at d1
 have HA:=zaa (addP g m m i _ w1 (hF.chg k1 hgt) (Nat.le_refl _) (by omega) (by omega))
 have T1:=zaa (t1.perm (tk_rm st n i))
 have K1:=zaa k1
 have HG:=zaa hgt
 have hi2:=zaa hi
 unfold K3 at r1
 clear hB hF hT t1 k1 z1 hpt hgt B1 hi n1 hmn
 go_enter Tryz.func71,Tryz.ntmps71
 go_wp2_with (refine HA.out.mono ?_;clear HA;rintro e w3 ⟨rfl,f3,c3⟩;have F3:=zaa f3;have C3:=zaa c3;clear f3 c3)
 first
  |refine bodyPost_end (results_none rfl _ _ _) rfl ?_
  |refine bodyPost_ret (results_none rfl _ _ _) rfl ?_
 refine ⟨rfl,F3.out.mono (fun j _=>?_),T1.out.chg C3.out (fun e=>HG.out e.symm),(K1.out.mono (fun j _ hj=>.inr hj)).trans C3.out (fun j _ hj=>.inl hj)⟩
 unfold upS
 by_cases h:j=i
 · have:=hi2.out
   simp [h,this]
 simp [h]
theorem lst_spec {S:Nat→Bool}:∀{n i j:Nat},lst S n i=some j→i≤j∧j<i+n∧S j=true
 |0,i,j,h=>by cases h
 |n+1,i,j,h=>by
  unfold lst at h
  split at h
  · next e=>
    cases h
    exact ⟨Nat.le_refl _,by omega,e⟩
  obtain ⟨h1,h2,h3⟩:=lst_spec h
  exact ⟨by omega,by omega,h3⟩
def fst1 (st:Sx) (n:Nat):Option Nat:=lst (fun j=>decide (j<n) && (st j).isNone) (64*((n+63) / 64)) 0
theorem fst_spec {st:Sx} {n i:Nat} (h:fst1 st n=some i):i<n∧st i=none:=by
 obtain ⟨_,_,h3⟩:=lst_spec h
 simp only [Bool.and_eq_true,decide_eq_true_eq,Option.isNone_iff_eq_none] at h3
 exact h3
def emp:ByteArray:=⟨#[]⟩
def upO (ow:ByteArray→Option Nat) (o:ByteArray) (x:Option Nat):ByteArray→Option Nat:=fun o'=>if o'=o then x else ow o'
def TkP (w:World) (p n g tb ob:Nat) (ow:ByteArray→Option Nat) (st':Sx) (w':World):Prop:=
 ∃ow',Pl w' p n g tb ob ow' st'∧Chg (PF g tb ob ow) w w'∧∀o sb,ow' o=some sb→ow o=some sb∨w.heap.size≤sb
theorem free_take (st:Sx) (n i:Nat) (x:ByteArray×ByteArray) (hi:i<n) (j:Nat):(!decide (j=i) && (decide (j<n) && (st j).isNone))=(decide (j<n) && (upS st i (some x) j).isNone):=by
 unfold upS
 by_cases h:j=i
 · simp [h]
 simp [h]
theorem set_ne (st:Sx) (n i:Nat) (o d:ByteArray) (hi:i<n):setL (upS st i (some (o,d))) n o≠[]:=by
 intro e
 have:((i:Int),uV)∈setL (upS st i (some (o,d))) n o:=mem_setL.2 ⟨i,hi,⟨d,by simp [upS]⟩,rfl,rfl⟩
 rw [e] at this
 simp at this
theorem al_rm_off {α:Type} [DecidableEq α] (l:List (α×Value)) {k k':α} (h:¬k'=k):al (rm l k) k'=al l k':=by
 unfold al rm
 rw [List.find?_filter]
 congr 2
 funext a
 by_cases e:a.1=k'
 · have:¬a.1=k:=fun e2=>h (e.symm.trans e2)
   simp [e,h]
 simp [e]
theorem map_ne (sb:Nat) (w:World):(binOp .eql 118 (.map (some sb)) (.map none)).run Tryz.prog w=.ok (.bool false) w:=by kernel_rfl
theorem map_eq (w:World):(binOp .eql 118 (.map none) (.map none)).run Tryz.prog w=.ok (.bool true) w:=by kernel_rfl
theorem take_none (o:ByteArray) (p n g tb ob:Nat) (ow:ByteArray→Option Nat) (st:Sx) (w:World) (h:Pl w p n g tb ob ow st) (hG:Gv w) (hf:fst1 st n=none):
 Calls Tryz.prog 65 #[.pointer (some ⟨p,0,none⟩),.string o] w fun e w'=>e=.returned (.tuple #[.int .i64 0,.int .i64 110])∧w'=w:=by
 obtain ⟨c0,c1,c2,c3⟩:=h.cells
 have HL:=zaa (leastP g ((n+63) / 64) ((n+63) / 64) _ w h.fr (by have:=h.n1;omega) hG)
 unfold fst1 at hf
 rw [hf] at HL
 unfold lstV at HL
 simp only [Option.getD_none,Option.isSome_none] at HL
 clear h hf c0 c2 c3
 obtain ⟨m,hm⟩:∃m,(n+63) / 64=m:=⟨_,rfl⟩
 rw [hm] at HL c1
 clear hm
 go_enter Tryz.func65,Tryz.ntmps65
 go_wp2_with (refine HL.out.mono ?_;clear HL;rintro e w3 ⟨rfl,rfl⟩)
 go_ret2
 exact ⟨rfl,rfl⟩
theorem take_old (o:ByteArray) (i sb p n g tb ob:Nat) (ow:ByteArray→Option Nat) (st:Sx) (w:World) (h:Pl w p n g tb ob ow st) (hG:Gv w) (hf:fst1 st n=some i) (ho:ow o=some sb):
 Calls Tryz.prog 65 #[.pointer (some ⟨p,0,none⟩),.string o] w fun e w'=>e=.returned (.tuple #[.int .i64 (i:Int),.int .i64 0])∧TkP w p n g tb ob ow (upS st i (some (o,emp))) w':=by
 obtain ⟨hin,hst⟩:=fst_spec hf
 have n1:=h.n1
 obtain ⟨c0,c1,c2,c3⟩:=h.cells
 have HL:=zaa (leastP g ((n+63) / 64) ((n+63) / 64) _ w h.fr (by omega) hG)
 unfold fst1 at hf
 rw [hf] at HL
 unfold lstV at HL
 simp only [Option.getD_some,Option.isSome_some] at HL
 have HR:=zaa (removeP g ((n+63) / 64) ((n+63) / 64) i _ w h.fr (Nat.le_refl _) (by omega) (by omega))
 have HP:=zaa h
 have hpg:¬p=g:=fun e=>absurd (h.blk.tg.one (e▸h.fr.tg)) (by decide)
 have htg:¬tb=g:=fun e=>h.tk.tg 51 (e▸h.fr.tg)
 have hpt:¬p=tb:=fun e=>h.tk.tg 69 (e▸h.blk.tg)
 have hog:¬ob=g:=fun e=>by obtain ⟨lo,h1,_⟩:=h.own;exact h1.tg 51 (e▸h.fr.tg)
 have hsg:¬sb=g:=fun e=>(h.set o sb ho).1.tg 51 (e▸h.fr.tg)
 have hfin:Hid (∀w1 w2 w3,Fr w1 g ((n+63) / 64) (fun j=>!decide (j=i) && (decide (j<n) && (st j).isNone))→Chg (fun j=>j=g) w w1→Ml K3 w2 tb (((i:Int),leV o emp) :: rm (tkL st n) (i:Int))→Chg (fun j=>j=tb) w1 w2→Ml K3 w3 sb (((i:Int),uV) :: rm (setL st n o) (i:Int))→Chg (fun j=>j=sb) w2 w3→TkP w p n g tb ob ow (upS st i (some (o,emp))) w3):=zaa (by
  intro w1 w2 w3 f1 k1 t2 k2 s3 k3
  obtain ⟨lo,l1,l2⟩:=h.own
  obtain ⟨s1,s2,s4,s5⟩:=h.set o sb ho
  have hsp:¬p=sb:=fun e=>s1.tg 69 (e▸h.blk.tg)
  refine ⟨ow,⟨k3.blk (k2.blk (k1.blk h.blk hpg) hpt) hsp,h.n1,?_,?_,⟨lo,((l1.chg k1 hog).chg k2 (fun e=>h.ne e.symm)).chg k3 (fun e=>s5 e.symm),l2⟩,?_,?_,h.inj,h.ne,?_⟩,?_,fun o' sb' e=>.inl e⟩
  · exact ((f1.chg k2 (fun e=>htg e.symm)).chg k3 (fun e=>hsg e.symm)).mono (fun j _=>free_take st n i _ hin j)
  · exact (t2.chg k3 (fun e=>s4 e.symm)).perm (tk_add st n i o emp hin)
  · intro o' sb' e
    by_cases ho':o'=o
    · subst ho'
      rw [ho] at e
      cases e
      exact ⟨s3.perm (set_add st n i o' emp hin),set_ne st n i o' emp hin,s4,s5⟩
    obtain ⟨u1,u2,u3,u4⟩:=h.set o' sb' e
    have hss:¬sb'=sb:=fun e2=>ho' (h.inj o' o sb (by rw [e,e2]) ho)
    have hp:=zdm st n i o o' emp ho' hst
    refine ⟨((((u1.chg k1 (fun e=>u1.tg 51 (e▸h.fr.tg))).chg k2 u3).chg k3 hss)).perm hp,fun e0=>u2 ?_,u3,u4⟩
    rw [e0] at hp
    exact hp.eq_nil
  · intro o' e
    have ho':¬o'=o:=fun e2=>by rw [e2,ho] at e;cases e
    have hp:=zdm st n i o o' emp ho' hst
    rw [h.non o' e] at hp
    exact hp.symm.eq_nil
  · intro j hj
    unfold upS
    rw [if_neg (by omega)]
    exact h.fin j hj
  exact (((k1.mono (fun j _ hj=>.inl hj)).trans k2 (fun j _ hj=>.inr (.inl hj)))).trans k3 (fun j _ hj=>.inr (.inr (.inr ⟨o,by rw [hj];exact ho⟩))))
 have HO:=zaa ho
 clear hf hG n1 c0 c3
 obtain ⟨m,hm⟩:∃m,(n+63) / 64=m:=⟨_,rfl⟩
 rw [hm] at HL HR c1 hfin
 have HM:=zaa hm
 clear h hm ho
 have hmn:=fun (w:World)=>map_ne sb w
 go_enter Tryz.func65,Tryz.ntmps65
 go_wp2_with (first
  |(refine HL.out.mono ?_;clear HL;rintro e w0 ⟨rfl,rfl⟩)
  |(refine HR.out.mono ?_;clear HR;rintro e w1 ⟨rfl,f1,k1⟩
    have B1:=k1.blk HP.out.blk hpg
    have d2:=B1.cell 2
    simp only [List.getElem?_cons_zero,List.getElem?_cons_succ] at d2
    obtain ⟨w2,r2,t2,k2,z2⟩:=(HP.out.tk.chg k1 htg).store (P:=Tryz.prog) kyI Tryz.underlying66 (i:Int) (leV o emp)
    have B2:=k2.blk B1 hpt
    have d3:=B2.cell 3
    simp only [List.getElem?_cons_zero,List.getElem?_cons_succ] at d3
    have l2:(Instr.lookup 67 (.map (some ob)) (.string o) false).run Tryz.prog w2=.ok (.map (some sb)) w2:=by
     obtain ⟨lo,l1,l3⟩:=HP.out.own
     have:=((l1.chg k1 hog).chg k2 (fun e=>HP.out.ne e.symm)).look kyS Tryz.underlying67 (zfk w2) o false
     rw [l3 o,HO.out] at this
     exact this
    obtain ⟨w3,r3,s3,k3,z3⟩:=(((HP.out.set o sb HO.out).1.chg k1 hsg).chg k2 (HP.out.set o sb HO.out).2.2.1).store (P:=Tryz.prog) kyI Tryz.underlying118 (i:Int) uV
    have HF:=zaa (hfin.out w1 w2 w3 f1 k1 t2 k2 s3 k3)
    unfold K3 leV emp at r2
    unfold K3 uV at r3
    clear f1 k1 B1 t2 k2 z2 B2 s3 k3 z3))
 go_ret2
 exact ⟨rfl,HF.out⟩
theorem take_new (o:ByteArray) (i p n g tb ob:Nat) (ow:ByteArray→Option Nat) (st:Sx) (w:World) (h:Pl w p n g tb ob ow st) (hG:Gv w) (hf:fst1 st n=some i) (ho:ow o=none):
 Calls Tryz.prog 65 #[.pointer (some ⟨p,0,none⟩),.string o] w fun e w'=>e=.returned (.tuple #[.int .i64 (i:Int),.int .i64 0])∧TkP w p n g tb ob ow (upS st i (some (o,emp))) w':=by
 obtain ⟨hin,hst⟩:=fst_spec hf
 have n1:=h.n1
 obtain ⟨c0,c1,c2,c3⟩:=h.cells
 have HL:=zaa (leastP g ((n+63) / 64) ((n+63) / 64) _ w h.fr (by omega) hG)
 unfold fst1 at hf
 rw [hf] at HL
 unfold lstV at HL
 simp only [Option.getD_some,Option.isSome_some] at HL
 have HR:=zaa (removeP g ((n+63) / 64) ((n+63) / 64) i _ w h.fr (Nat.le_refl _) (by omega) (by omega))
 have HP:=zaa h
 have hpg:¬p=g:=fun e=>absurd (h.blk.tg.one (e▸h.fr.tg)) (by decide)
 have htg:¬tb=g:=fun e=>h.tk.tg 51 (e▸h.fr.tg)
 have hpt:¬p=tb:=fun e=>h.tk.tg 69 (e▸h.blk.tg)
 have hog:¬ob=g:=fun e=>by obtain ⟨lo,h1,_⟩:=h.own;exact h1.tg 51 (e▸h.fr.tg)
 have hfin:Hid (∀(lo:List (ByteArray×Value)) (l1:Ml Value.string w ob lo) (l2:∀o,al lo o=(ow o).map fun sb=>Value.map (some sb)) (w1 w2 w3 w4:World),Fr w1 g ((n+63) / 64) (fun j=>!decide (j=i) && (decide (j<n) && (st j).isNone))→Chg (fun j=>j=g) w w1→Ml K3 w2 tb (((i:Int),leV o emp) :: rm (tkL st n) (i:Int))→Chg (fun j=>j=tb) w1 w2→
  Ml Value.string w3 ob ((o,Value.map (some w2.heap.size)) :: rm lo o)→Chg (fun j=>j=ob) (w2.alloc (.map #[] 0)) w3→Ml K3 w4 w2.heap.size (((i:Int),uV) :: rm ([]:List (Int×Value)) (i:Int))→Chg (fun j=>j=w2.heap.size) w3 w4→TkP w p n g tb ob ow (upS st i (some (o,emp))) w4):=zaa (by
  intro lo l1 l2 w1 w2 w3 w4 f1 k1 t2 k2 s3 k3 s4 k4
  have hz:w.heap.size≤w2.heap.size:=Nat.le_trans k1.size k2.size
  have hpl:=h.blk.lt
  have htl:=h.tk.lt
  have hol:=l1.lt
  have hgl:g<w.heap.size:=by obtain ⟨r,hr,_⟩:=h.fr.ex;exact hr.lt
  have hnew:Chg (fun j=>j=w2.heap.size) w2 (w2.alloc (.map #[] 0)):=Chg.alloc _ _ _
  have hpo:¬p=ob:=fun e=>l1.tg 69 (e▸h.blk.tg)
  have hall:Chg (PF g tb ob ow) w w4:=((((k1.mono (fun j _ hj=>.inl hj)).trans k2 (fun j _ hj=>.inr (.inl hj))).trans (Chg.alloc (fun _=>False) w2 _) (fun j _ hj=>hj.elim)).trans k3 (fun j _ hj=>.inr (.inr (.inl hj)))).trans k4 (fun j hj e=>by omega)
  refine ⟨upO ow o (some w2.heap.size),⟨k4.blk (k3.blk ((k2.blk (k1.blk h.blk hpg) hpt).alloc _) hpo) (by omega),h.n1,?_,?_,⟨_,s3.chg k4 (by omega),fun o'=>?_⟩,?_,?_,?_,h.ne,?_⟩,hall,?_⟩
  · exact ((((f1.chg k2 (fun e=>htg e.symm)).later ((Below.refl _ _).alloc (Nat.le_refl _) _)).chg k3 (fun e=>hog e.symm)).chg k4 (by omega)).mono (fun j _=>free_take st n i _ hin j)
  · exact (((t2.later ((Below.refl _ _).alloc (Nat.le_refl _) _)).chg k3 h.ne).chg k4 (by omega)).perm (tk_add st n i o emp hin)
  · unfold upO
    by_cases ho':o'=o
    · subst ho'
      simp [al]
    rw [if_neg ho',←l2 o']
    have:¬o=o':=fun e=>ho' e.symm
    rw [←al_rm_off lo ho']
    unfold al
    rw [List.find?_cons_of_neg (by simpa using this)]
  · intro o' sb' e
    unfold upO at e
    by_cases ho':o'=o
    · subst ho'
      rw [if_pos rfl] at e
      cases e
      have e0:=h.non o' ho
      refine ⟨?_,set_ne st n i o' emp hin,by omega,by omega⟩
      have:=set_add st n i o' emp hin
      rw [e0] at this
      exact s4.perm this
    rw [if_neg ho'] at e
    obtain ⟨u1,u2,u3,u4⟩:=h.set o' sb' e
    have hul:=u1.lt
    have hp:=zdm st n i o o' emp ho' hst
    refine ⟨(((((u1.chg k1 (fun e=>u1.tg 51 (e▸h.fr.tg))).chg k2 u3).later ((Below.refl _ _).alloc (Nat.le_refl _) _)).chg k3 u4).chg k4 (by omega)).perm hp,fun e0=>u2 ?_,u3,u4⟩
    rw [e0] at hp
    exact hp.eq_nil
  · intro o' e
    unfold upO at e
    by_cases ho':o'=o
    · rw [if_pos ho'] at e
      cases e
    rw [if_neg ho'] at e
    have hp:=zdm st n i o o' emp ho' hst
    rw [h.non o' e] at hp
    exact hp.symm.eq_nil
  · intro o1 o2 sb' e1 e2
    unfold upO at e1 e2
    by_cases g1:o1=o
    · by_cases g2:o2=o
      · rw [g1,g2]
      rw [if_pos g1] at e1
      rw [if_neg g2] at e2
      cases e1
      have:=(h.set o2 _ e2).1.lt
      omega
    rw [if_neg g1] at e1
    by_cases g2:o2=o
    · rw [if_pos g2] at e2
      cases e2
      have:=(h.set o1 _ e1).1.lt
      omega
    rw [if_neg g2] at e2
    exact h.inj o1 o2 sb' e1 e2
  · intro j hj
    unfold upS
    rw [if_neg (by omega)]
    exact h.fin j hj
  intro o' sb' e
  unfold upO at e
  split at e
  · cases e
    exact .inr hz
  exact .inl e)
 have HO:=zaa ho
 clear hf hG n1 c0 c3
 obtain ⟨m,hm⟩:∃m,(n+63) / 64=m:=⟨_,rfl⟩
 rw [hm] at HL HR c1 hfin
 have HM:=zaa hm
 clear h hm ho
 go_enter Tryz.func65,Tryz.ntmps65
 go_wp2_with (first
  |(refine HL.out.mono ?_;clear HL;rintro e w0 ⟨rfl,rfl⟩)
  |(refine HR.out.mono ?_;clear HR;rintro e w1 ⟨rfl,f1,k1⟩
    have B1:=k1.blk HP.out.blk hpg
    have d2:=B1.cell 2
    simp only [List.getElem?_cons_zero,List.getElem?_cons_succ] at d2
    obtain ⟨w2,r2,t2,k2,z2⟩:=(HP.out.tk.chg k1 htg).store (P:=Tryz.prog) kyI Tryz.underlying66 (i:Int) (leV o emp)
    have B2:=k2.blk B1 hpt
    have d3:=B2.cell 3
    simp only [List.getElem?_cons_zero,List.getElem?_cons_succ] at d3
    have l2:(Instr.lookup 67 (.map (some ob)) (.string o) false).run Tryz.prog w2=.ok (.map none) w2:=by
     obtain ⟨lo,l1,l3⟩:=HP.out.own
     have:=((l1.chg k1 hog).chg k2 (fun e=>HP.out.ne e.symm)).look kyS Tryz.underlying67 (zfk w2) o false
     rw [l3 o,HO.out] at this
     exact this
    obtain ⟨lo,l1,l3⟩:=HP.out.own
    have lo2:=((l1.chg k1 hog).chg k2 (fun e=>HP.out.ne e.symm)).later (w':=w2.alloc (.map #[] 0)) ((Below.refl _ _).alloc (Nat.le_refl _) _)
    obtain ⟨w3,r3,s3,k3,z3⟩:=lo2.store (P:=Tryz.prog) kyS Tryz.underlying67 o (.map (some w2.heap.size))
    have d3':=(B2.alloc (.map #[] 0)).cell 3
    simp only [List.getElem?_cons_zero,List.getElem?_cons_succ] at d3'
    have hpo:¬p=ob:=fun e=>l1.tg 69 (e▸HP.out.blk.tg)
    have d4:=(k3.blk (B2.alloc (.map #[] 0)) hpo).cell 3
    simp only [List.getElem?_cons_zero,List.getElem?_cons_succ] at d4
    have l4:(Instr.lookup 67 (.map (some ob)) (.string o) false).run Tryz.prog w3=.ok (.map (some w2.heap.size)) w3:=by
     have:=s3.look kyS Tryz.underlying67 (zfk w3) o false
     simpa [al] using this
    have hol:=l1.lt
    have hz:=Nat.le_trans k1.size k2.size
    have hb9:¬w2.heap.size=ob:=by omega
    have m3:Ml K3 w3 w2.heap.size []:=(Ml.made K3 w2).chg k3 hb9
    obtain ⟨w4,r4,s4,k4,z4⟩:=m3.store (P:=Tryz.prog) kyI Tryz.underlying118 (i:Int) uV
    have HF:=zaa (hfin.out lo l1 l3 w1 w2 w3 w4 f1 k1 t2 k2 s3 k3 s4 k4)
    unfold K3 leV emp at r2
    unfold K3 uV at r4
    have hmm:=@run_makeMap Tryz.prog
    have hnn:=fun (w:World)=>map_eq w
    clear f1 k1 B1 t2 k2 z2 B2 s3 k3 z3 s4 k4 z4 m3 lo2 l1 l3 hol hz))
 go_ret2
 exact ⟨rfl,HF.out⟩
theorem put_none (k:Int) (ad:Option Addr) (len c:Nat) (p n g tb ob:Nat) (ow:ByteArray→Option Nat) (st:Sx) (w:World) (h:Pl w p n g tb ob ow st) (hk:al (tkL st n) k=none):
 Calls Tryz.prog 66 #[.pointer (some ⟨p,0,none⟩),.int .i64 k,.slice ad len c] w fun e w'=>e=.returned (.int .i64 111)∧Below w.heap.size w w':=by
 obtain ⟨c0,c1,c2,c3⟩:=h.cells
 have l1:=h.lookT k
 rw [hk] at l1
 simp only [Option.getD_none,Option.isSome_none,leV] at l1
 clear h hk c0 c1 c3
 go_enter Tryz.func66,Tryz.ntmps66
 go_wp2_with fail
 go_ret
 exact ⟨rfl,(Below.refl _ _).alloc (Nat.le_refl _) _⟩
theorem put_long (i:Nat) (o d:ByteArray) (ad:Option Addr) (len c:Nat) (p n g tb ob:Nat) (ow:ByteArray→Option Nat) (st:Sx) (w:World) (h:Pl w p n g tb ob ow st) (hi:i<n) (hk:st i=some (o,d)) (hl:128<len) (hl2:len≤9223372036854775807):
 Calls Tryz.prog 66 #[.pointer (some ⟨p,0,none⟩),.int .i64 (i:Int),.slice ad len c] w fun e w'=>e=.returned (.int .i64 1)∧Below w.heap.size w w':=by
 obtain ⟨c0,c1,c2,c3⟩:=h.cells
 have l1:=h.lookT (i:Int)
 rw [al_tk hi,hk] at l1
 simp only [Option.map_some,Option.getD_some,Option.isSome_some,leV] at l1
 have hlz:(128:Int)<(len:Int):=by omega
 clear h hk c0 c1 c3 hi
 go_enter Tryz.func66,Tryz.ntmps66
 go_wp2_with fail
 go_ret
 exact ⟨rfl,(Below.refl _ _).alloc (Nat.le_refl _) _⟩
theorem upS_isNone {st:Sx} {i:Nat} {x y:ByteArray×ByteArray} (h:st i=some x) (j:Nat):(upS st i (some y) j).isNone=(st j).isNone:=by
 unfold upS
 split
 · next e=>rw [e,h];rfl
 rfl
theorem set_keep (st:Sx) (n i:Nat) (o d d' o':ByteArray) (hs:st i=some (o,d)):(setL st n o').Perm (setL (upS st i (some (o,d'))) n o'):=by
 rw [List.perm_ext_iff_of_nodup (zax (set_pw st n o')) (zax (set_pw _ n o'))]
 rintro ⟨k,v⟩
 rw [mem_setL,mem_setL]
 constructor
 · rintro ⟨j,hj,⟨x,e⟩,rfl,rfl⟩
   by_cases hji:j=i
   · subst hji
     rw [hs] at e
     cases e
     exact ⟨j,hj,⟨d',by simp [upS]⟩,rfl,rfl⟩
   exact ⟨j,hj,⟨x,by unfold upS;rw [if_neg hji];exact e⟩,rfl,rfl⟩
 rintro ⟨j,hj,⟨x,e⟩,rfl,rfl⟩
 unfold upS at e
 split at e
 · next h=>
   subst h
   cases e
   exact ⟨j,hj,⟨d,hs⟩,rfl,rfl⟩
 exact ⟨j,hj,⟨x,e⟩,rfl,rfl⟩
theorem Pl.put {w w':World} {p n g tb ob i:Nat} {ow:ByteArray→Option Nat} {st:Sx} {o d d':ByteArray} (h:Pl w p n g tb ob ow st) (hi:i<n) (hk:st i=some (o,d)) (t:Ml K3 w' tb (((i:Int),leV o d') :: rm (tkL st n) (i:Int))) (k:Chg (fun j=>j=tb) w w'):Pl w' p n g tb ob ow (upS st i (some (o,d'))):=by
 obtain ⟨lo,l1,l2⟩:=h.own
 refine ⟨k.blk h.blk (fun e=>h.tk.tg 69 (e▸h.blk.tg)),h.n1,?_,t.perm (tk_add st n i o d' hi),⟨lo,l1.chg k (fun e=>h.ne e.symm),l2⟩,fun o' sb e=>?_,fun o' e=>?_,h.inj,h.ne,fun j hj=>?_⟩
 · exact (h.fr.chg k (fun e=>h.tk.tg 51 (e▸h.fr.tg))).mono (fun j _=>by rw [upS_isNone hk])
 · obtain ⟨u1,u2,u3,u4⟩:=h.set o' sb e
   have hp:=set_keep st n i o d d' o' hk
   refine ⟨(u1.chg k u3).perm hp,fun e0=>u2 ?_,u3,u4⟩
   rw [e0] at hp
   exact hp.eq_nil
 · have hp:=set_keep st n i o d d' o' hk
   rw [h.non o' e] at hp
   exact hp.symm.eq_nil
 unfold upS
 rw [if_neg (by omega)]
 exact h.fin j hj
theorem put_ok (i:Nat) (o d:ByteArray) (ad:Option Addr) (len c:Nat) (l:List Int) (p n g tb ob:Nat) (ow:ByteArray→Option Nat) (st:Sx) (w:World) (h:Pl w p n g tb ob ow st) (hi:i<n) (hk:st i=some (o,d)) (hs:Sl w ad len l) (hl:len≤128):
 Calls Tryz.prog 66 #[.pointer (some ⟨p,0,none⟩),.int .i64 (i:Int),.slice ad len c] w fun e w'=>e=.returned (.int .i64 0)∧Pl w' p n g tb ob ow (upS st i (some (o,strOfNums l)))∧Chg (fun j=>j=tb) w w':=by
 obtain ⟨c0,c1,c2,c3⟩:=h.cells
 have l1:=h.lookT (i:Int)
 rw [al_tk hi,hk] at l1
 simp only [Option.map_some,Option.getD_some,Option.isSome_some,leV] at l1
 have hpl:=h.blk.lt
 have hcv:∀(ob:Obj),(convert 84 9 (.slice ad len c)).run Tryz.prog (w.alloc ob)=.ok (.string (strOfNums l)) (w.alloc ob):=fun ob=>zav 84 5 9 Tryz.underlying84 Tryz.underlying5 Tryz.underlying9 (hs.later ((Below.refl _ _).alloc (Nat.le_refl _) _))
 have HP:=zaa h
 have HK:=zaa (And.intro hi hk)
 have hlz:¬(128:Int)<(len:Int):=by omega
 clear h hk c0 c1 c3 hs hi
 generalize strOfNums l=d' at*
 go_enter Tryz.func66,Tryz.ntmps66
 go_wp2_with fail
 obtain ⟨w5,hw5⟩:∃w5,w.alloc (Obj.cells #[.string o,.string d'] 131)=w5:=⟨_,rfl⟩
 have k5:Blk w5 w.heap.size 131 [.string o,.string d']:=by rw [←hw5];exact Blk.new w 131 [.string o,.string d']
 have b5:Below w.heap.size w w5:=by rw [←hw5];exact (Below.refl _ _).alloc (Nat.le_refl _) _
 first|rw [hw5]|skip
 clear hw5 hcv l1 c2 hlz
 have H5:=zaa (HP.out.later b5)
 have e2:=H5.out.cells.2.2.1
 have z0:=k5.cell 0
 have z1:=k5.cell 1
 simp only [List.getElem?_cons_zero,List.getElem?_cons_succ] at z0 z1
 obtain ⟨w6,r6,t6,k6,_⟩:=Ml.store (w:=w5.drew) (P:=Tryz.prog) H5.out.tk kyI Tryz.underlying66 (i:Int) (leV o d')
 have T6:=zaa t6
 have K6:=zaa k6
 unfold K3 leV at r6
 clear t6 k6
 go_region
 all_goals
  go_wp2_with fail
  go_ret
  have k7:Chg (fun j=>j=tb) w5 w6:=(Chg.drew _ _).trans K6.out (fun _ _ h=>h)
  exact ⟨rfl,H5.out.put HK.out.1 HK.out.2 T6.out k7,(Chg.of_below b5).trans k7 (fun _ _ h=>h)⟩
theorem give_none (k:Int) (p n g tb ob:Nat) (ow:ByteArray→Option Nat) (st:Sx) (w:World) (h:Pl w p n g tb ob ow st) (hk:al (tkL st n) k=none):
 Calls Tryz.prog 43 #[.pointer (some ⟨p,0,none⟩),.int .i64 k] w fun e w'=>e=.returned (.int .i64 111)∧Below w.heap.size w w':=by
 obtain ⟨c0,c1,c2,c3⟩:=h.cells
 have l1:=h.lookT k
 rw [hk] at l1
 simp only [Option.getD_none,Option.isSome_none,leV] at l1
 clear h hk c0 c1 c3
 go_enter Tryz.func43,Tryz.ntmps43
 go_wp2_with fail
 go_ret
 exact ⟨rfl,(Below.refl _ _).alloc (Nat.le_refl _) _⟩
theorem Pl.has {w:World} {p n g tb ob i:Nat} {ow:ByteArray→Option Nat} {st:Sx} {o d:ByteArray} (h:Pl w p n g tb ob ow st) (hi:i<n) (hk:st i=some (o,d)):∃sb,ow o=some sb:=by
 cases e:ow o with
 |some sb=>exact ⟨sb,rfl⟩
 |none=>
  have:=h.non o e
  have hm:((i:Int),uV)∈setL st n o:=mem_setL.2 ⟨i,hi,⟨d,hk⟩,rfl,rfl⟩
  rw [this] at hm
  simp at hm
theorem set_off (st:Sx) (n i:Nat) (o o' d:ByteArray) (hne:¬o'=o) (hs:st i=some (o,d)):(setL st n o').Perm (setL (upS st i none) n o'):=by
 have h:=set_rm st n i o'
 have e:rm (setL st n o') (i:Int)=setL st n o':=by
  unfold rm
  rw [List.filter_eq_self]
  rintro ⟨k,v⟩ hm
  obtain ⟨j,hj,⟨x,ex⟩,rfl,rfl⟩:=mem_setL.1 hm
  simp only [decide_eq_true_eq]
  intro e1
  obtain rfl:j=i:=by omega
  rw [hs] at ex
  simp only [Option.some.injEq,Prod.mk.injEq] at ex
  exact hne ex.1.symm
 rw [e] at h
 exact h
theorem Pl.give {w w1 w2:World} {p n g tb ob i sb:Nat} {ow:ByteArray→Option Nat} {st:Sx} {o d:ByteArray} (h:Pl w p n g tb ob ow st) (hi:i<n) (hk:st i=some (o,d)) (ho:ow o=some sb)
 (f1:Fr w1 g ((n+63) / 64) (fun j=>decide (j<n) && (upS st i none j).isNone)) (t1:Ml K3 w1 tb (tkL (upS st i none) n)) (k1:Chg (fun j=>j=g∨j=tb) w w1)
 (s2:Ml K3 w2 sb (rm (setL st n o) (i:Int))) (k2:Chg (fun j=>j=sb) w1 w2):
 (setL (upS st i none) n o≠[]→Pl w2 p n g tb ob ow (upS st i none))∧
 (setL (upS st i none) n o=[]→∀lo:List (ByteArray×Value),(∀o,al lo o=(ow o).map fun sb=>Value.map (some sb))→∀w3,Ml Value.string w3 ob (rm lo o)→Chg (fun j=>j=ob) w2 w3→Pl w3 p n g tb ob (upO ow o none) (upS st i none)):=by
 obtain ⟨lo,l1,l2⟩:=h.own
 obtain ⟨s1,_,s4,s5⟩:=h.set o sb ho
 have hpg:¬p=g:=fun e=>absurd (h.blk.tg.one (e▸h.fr.tg)) (by decide)
 have hpt:¬p=tb:=fun e=>h.tk.tg 69 (e▸h.blk.tg)
 have hps:¬p=sb:=fun e=>s1.tg 69 (e▸h.blk.tg)
 have hpo:¬p=ob:=fun e=>l1.tg 69 (e▸h.blk.tg)
 have hgs:¬g=sb:=fun e=>s1.tg 51 (e▸h.fr.tg)
 have hgo:¬g=ob:=fun e=>l1.tg 51 (e▸h.fr.tg)
 have hfin:∀j,n≤j→upS st i none j=none:=fun j hj=>by
  unfold upS
  rw [if_neg (by omega)]
  exact h.fin j hj
 have hoth:∀o' sb',ow o'=some sb'→¬o'=o→Ml K3 w2 sb' (setL (upS st i none) n o')∧setL (upS st i none) n o'≠[]∧sb'≠tb∧sb'≠ob:=by
  intro o' sb' e ho'
  obtain ⟨u1,u2,u3,u4⟩:=h.set o' sb' e
  have hss:¬sb'=sb:=fun e2=>ho' (h.inj o' o sb (by rw [e,e2]) ho)
  have hp:=set_off st n i o o' d ho' hk
  refine ⟨((u1.chg k1 (by rintro (e|e)
                          · exact u1.tg 51 (e▸h.fr.tg)
                          exact u3 e)).chg k2 hss).perm hp,fun e0=>u2 ?_,u3,u4⟩
  rw [e0] at hp
  exact hp.eq_nil
 have hnon:∀o',ow o'=none→setL (upS st i none) n o'=[]:=by
  intro o' e
  have ho':¬o'=o:=fun e2=>by rw [e2,ho] at e;cases e
  have hp:=set_off st n i o o' d ho' hk
  rw [h.non o' e] at hp
  exact hp.symm.eq_nil
 have B2:=k2.blk (k1.blk h.blk (by rintro (e|e);exact hpg e;exact hpt e)) hps
 refine ⟨fun hne=>?_,fun he lo' lo2' w3 hlo k3=>?_⟩
 · refine ⟨B2,h.n1,f1.chg k2 hgs,t1.chg k2 (fun e=>s4 e.symm),⟨lo,(l1.chg k1 (by rintro (e|e);exact hgo e.symm;exact h.ne e.symm)).chg k2 (fun e=>s5 e.symm),l2⟩,fun o' sb' e=>?_,hnon,h.inj,h.ne,hfin⟩
   by_cases ho':o'=o
   · subst ho'
     rw [ho] at e
     cases e
     exact ⟨s2.perm (set_rm st n i o'),hne,s4,s5⟩
   exact hoth o' sb' e ho'
 refine ⟨k3.blk B2 hpo,h.n1,(f1.chg k2 hgs).chg k3 hgo,(t1.chg k2 (fun e=>s4 e.symm)).chg k3 h.ne,⟨_,hlo,fun o'=>?_⟩,fun o' sb' e=>?_,fun o' e=>?_,fun o1 o2 sb' e1 e2=>?_,h.ne,hfin⟩
 · unfold upO
   by_cases ho':o'=o
   · subst ho'
     rw [if_pos rfl]
     exact zdh (fun p hp e=>by
      unfold rm at hp
      have:=(List.mem_filter.1 hp).2
      simp only [decide_eq_true_eq] at this
      exact this e)
   rw [if_neg ho',al_rm_off lo' ho',lo2' o']
 · unfold upO at e
   split at e
   · cases e
   next ho'=>
   obtain ⟨u1,u2,u3,u4⟩:=hoth o' sb' e ho'
   exact ⟨u1.chg k3 u4,u2,u3,u4⟩
 · unfold upO at e
   split at e
   · next ho'=>rw [ho'];exact he
   exact hnon o' e
 unfold upO at e1 e2
 split at e1
 · cases e1
 split at e2
 · cases e2
 exact h.inj o1 o2 sb' e1 e2
theorem give_ok (i:Nat) (o d:ByteArray) (p n g tb ob:Nat) (ow:ByteArray→Option Nat) (st:Sx) (w:World) (h:Pl w p n g tb ob ow st) (hi:i<n) (hk:st i=some (o,d)):
 Calls Tryz.prog 43 #[.pointer (some ⟨p,0,none⟩),.int .i64 (i:Int)] w fun e w'=>e=.returned (.int .i64 0)∧TkP w p n g tb ob ow (upS st i none) w':=by
 obtain ⟨sb,ho⟩:=h.has hi hk
 obtain ⟨c0,c1,c2,c3⟩:=h.cells
 have l1:=h.lookT (i:Int)
 rw [al_tk hi,hk] at l1
 simp only [Option.map_some,Option.getD_some,Option.isSome_some,leV] at l1
 have K5:=zaa (Blk.new w 131 [.string o,.string d])
 have hb5:Below w.heap.size w (w.alloc (.cells [.string o,.string d].toArray 131)):=(Below.refl _ _).alloc (Nat.le_refl _) _
 have H5:=zaa (h.later hb5)
 have HB5:=zaa hb5
 have HR:=zaa (releaseP i p n g tb ob st _ hi h.n1 H5.out.blk H5.out.fr H5.out.tk)
 have HK:=zaa (And.intro hi (And.intro hk ho))
 clear h hk ho hi c0 c1 c3 hb5
 go_enter Tryz.func43,Tryz.ntmps43
 go_wp2_with (refine HR.out.mono ?_;clear HR;rintro e w1 ⟨rfl,f1,t1,k1⟩;have F1:=zaa f1;have T1:=zaa t1;have K1:=zaa k1;clear f1 t1 k1)
 obtain ⟨hi,hk,ho⟩:=HK.out
 obtain ⟨lo,lo1,lo2⟩:=H5.out.own
 obtain ⟨s1,_,s4,s5⟩:=H5.out.set o sb ho
 have hF5:=H5.out.fr
 have hpg:¬p=g:=fun e=>absurd (H5.out.blk.tg.one (e▸hF5.tg)) (by decide)
 have hpt:¬p=tb:=fun e=>H5.out.tk.tg 69 (e▸H5.out.blk.tg)
 have hps:¬p=sb:=fun e=>s1.tg 69 (e▸H5.out.blk.tg)
 have hgs:¬sb=g:=fun e=>s1.tg 51 (e▸hF5.tg)
 have hgo:¬ob=g:=fun e=>lo1.tg 51 (e▸hF5.tg)
 have hvg:¬w.heap.size=g:=fun e=>absurd (K5.out.tg.one (e▸hF5.tg)) (by decide)
 have hvt:¬w.heap.size=tb:=fun e=>H5.out.tk.tg 131 (e▸K5.out.tg)
 have hvs:¬w.heap.size=sb:=fun e=>s1.tg 131 (e▸K5.out.tg)
 have HB1:=zaa (K1.out.blk H5.out.blk (by rintro (e|e);exact hpg e;exact hpt e))
 have HV1:=zaa (K1.out.blk K5.out (by rintro (e|e);exact hvg e;exact hvt e))
 have HLO1:=zaa (lo1.chg K1.out (by rintro (e|e);exact hgo e;exact H5.out.ne e.symm))
 have HS1:=zaa (s1.chg K1.out (by rintro (e|e);exact hgs e;exact s4 e))
 have a3:=HB1.out.cell 3
 have a0:=HV1.out.cell 0
 simp only [List.getElem?_cons_zero,List.getElem?_cons_succ] at a3 a0
 have la:(Instr.lookup 67 (.map (some ob)) (.string o) false).run Tryz.prog w1.drew=.ok (.map (some sb)) w1.drew:=by
  have:=Ml.look (w:=w1.drew) HLO1.out kyS Tryz.underlying67 (zfk w1.drew) o false
  rw [lo2 o,ho] at this
  exact this
 obtain ⟨w2,r2,s2,k2,z2⟩:=Ml.drop (w:=w1.drew) (P:=Tryz.prog) (ty:=0) HS1.out kyI Tryz.underlying118 (i:Int)
 have k2':Chg (fun j=>j=sb) w1 w2:=(Chg.drew _ _).trans k2 (fun _ _ h=>h)
 have HB2:=zaa (k2'.blk HB1.out hps)
 have HV2:=zaa (k2'.blk HV1.out hvs)
 have HLO2:=zaa (HLO1.out.chg k2' (fun e=>s5 e.symm))
 have b3:=HB2.out.cell 3
 have b0:=HV2.out.cell 0
 simp only [List.getElem?_cons_zero,List.getElem?_cons_succ] at b3 b0
 have lb:(Instr.lookup 67 (.map (some ob)) (.string o) false).run Tryz.prog w2.drew=.ok (.map (some sb)) w2.drew:=by
  have:=Ml.look (w:=w2.drew) HLO2.out kyS Tryz.underlying67 (zfk w2.drew) o false
  rw [lo2 o,ho] at this
  exact this
 have ln:=Ml.len (w:=w2.drew) s2 (P:=Tryz.prog) Tryz.underlying118 3
 have HG:=zaa (H5.out.give hi hk ho F1.out T1.out K1.out s2 k2')
 have hlen:(rm (setL st n o) (i:Int)).length=(setL (upS st i none) n o).length:=(set_rm st n i o).length_eq
 rw [hlen] at ln
 obtain ⟨w3,r3,s3,k3,z3⟩:=Ml.drop (w:=w2.drew.drew) (P:=Tryz.prog) (ty:=0) HLO2.out kyS Tryz.underlying67 o
 have hch:Hid (Chg (PF g tb ob ow) w w2):=zaa (((Chg.of_below HB5.out).trans K1.out (fun j _ hj=>by
  rcases hj with e|e
  · exact .inl e
  exact .inr (.inl e))).trans k2' (fun j _ hj=>.inr (.inr (.inr ⟨o,by rw [hj];exact ho⟩))))
 have HEnd:Hid ((setL (upS st i none) n o).length≠0→TkP w p n g tb ob ow (upS st i none) w2.drew):=zaa (fun hne=>by
  have hp:=HG.out.1 (fun e=>hne (by rw [e];rfl))
  exact ⟨ow,hp.later (zah (Below.refl _ _) 1),hch.out.trans (Chg.drew _ _) (fun _ _ h=>h),fun _ _ e=>.inl e⟩)
 have HEnd2:Hid ((setL (upS st i none) n o).length=0→TkP w p n g tb ob ow (upS st i none) w3):=zaa (fun he=>by
  have k3':Chg (fun j=>j=ob) w2 w3:=((Chg.drew _ _).trans (Chg.drew _ _) (fun _ _ h=>h)).trans k3 (fun _ _ h=>h)
  have hp:=HG.out.2 (List.eq_nil_of_length_eq_zero he) lo lo2 w3 s3 k3'
  refine ⟨upO ow o none,hp,hch.out.trans k3' (fun j _ hj=>.inr (.inr (.inl hj))),fun o' sb' e=>?_⟩
  unfold upO at e
  split at e
  · cases e
  exact .inl e)
 generalize (setL (upS st i none) n o).length=T at*
 unfold K3 at r2
 clear s2 k2 k2' z2 s3 k3 z3 lo1 lo2 s1 hF5 hpg hpt hps hgs hgo hvg hvt hvs hi hk ho hlen s4 s5
 by_cases hT:T=0
 · subst hT
   have HE:=zaa (HEnd2.out rfl)
   clear HEnd HEnd2
   go_region
   all_goals
    go_wp2_with fail
    go_region
    all_goals
     go_wp2_with fail
     go_region
     all_goals
      go_wp2_with fail
      go_ret
      exact ⟨rfl,HE.out⟩
 have HE:=zaa (HEnd.out hT)
 have hT':((T:Int)==0)=false:=by simpa using hT
 clear HEnd HEnd2
 go_region
 all_goals
  go_wp2_with fail
  go_region
  all_goals
   go_wp2_with fail
   go_ret
   exact ⟨rfl,HE.out⟩
def KF (base:Nat) (w:World):Nat→Prop:=fun i=>base≤i∧∀t,Tg w i t→t=51
theorem Pl.kf {w:World} {p n g tb ob base:Nat} {ow:ByteArray→Option Nat} {st:Sx} (h:Pl w p n g tb ob ow st) (hb:∀i,PF g tb ob ow i→base≤i):∀i,PF g tb ob ow i→KF base w i:=by
 intro i hi
 refine ⟨hb i hi,fun t ht=>?_⟩
 rcases hi with rfl|rfl|rfl|⟨o,e⟩
 · exact ht.one h.fr.tg
 · exact absurd ht (h.tk.tg t)
 · obtain ⟨lo,l1,_⟩:=h.own
   exact absurd ht (l1.tg t)
 exact absurd ht ((h.set o i e).1.tg t)
def takeS (st:Sx) (n:Nat) (o:ByteArray):Sx:=match fst1 st n with
 |some i=>upS st i (some (o,emp))
 |none=>st
def takeV (st:Sx) (n:Nat):Value:=match fst1 st n with
 |some i=>.tuple #[.int .i64 (i:Int),.int .i64 0]
 |none=>.tuple #[.int .i64 0,.int .i64 110]
def atS (st:Sx) (n:Nat) (k:Int):Option (Nat×ByteArray×ByteArray):=if 0≤k∧k<(n:Int) then (st k.toNat).map fun x=>(k.toNat,x) else none
theorem atS_cases (st:Sx) (n:Nat) (k:Int):(atS st n k=none∧al (tkL st n) k=none)∨∃i o d,atS st n k=some (i,o,d)∧k=(i:Int)∧i<n∧st i=some (o,d)∧al (tkL st n) k=some (leV o d):=by
 unfold atS
 by_cases hk:0≤k∧k<(n:Int)
 · obtain ⟨i,rfl⟩:∃i:Nat,k=(i:Int):=⟨k.toNat,by omega⟩
   have hi:i<n:=by omega
   rw [if_pos hk,Int.toNat_natCast]
   cases e:st i with
   |none=>exact .inl ⟨rfl,by rw [al_tk hi,e];rfl⟩
   |some x=>
    obtain ⟨o,d⟩:=x
    exact .inr ⟨i,o,d,rfl,rfl,hi,e,by rw [al_tk hi,e];rfl⟩
 rw [if_neg hk]
 exact .inl ⟨rfl,al_tk_off (by omega)⟩
def giveS (st:Sx) (n:Nat) (k:Int):Int×Sx:=match atS st n k with
 |some (i,_)=>(0,upS st i none)
 |none=>(111,st)
def putS (st:Sx) (n:Nat) (k:Int) (l:List Int):Int×Sx:=match atS st n k with
 |some (i,o,_)=>if 128<l.length then (1,st) else (0,upS st i (some (o,strOfNums l)))
 |none=>(111,st)
def PQ (F:Nat→Prop) (w:World) (p n:Nat) (st:Sx):Prop:=∃g tb ob ow,Pl w p n g tb ob ow st∧∀i,F i↔PF g tb ob ow i
def Nw (w:World) (F F':Nat→Prop):Prop:=∀i,F' i→F i∨w.heap.size≤i
theorem Nw.refl (w:World) (F:Nat→Prop):Nw w F F:=fun i h=>.inl h
theorem PQ.later {F:Nat→Prop} {w w':World} {p n:Nat} {st:Sx} (h:PQ F w p n st) (k:Below w.heap.size w w'):PQ F w' p n st:=by
 obtain ⟨g,tb,ob,ow,h3,h4⟩:=h
 exact ⟨g,tb,ob,ow,h3.later k,h4⟩
theorem PQ.tag {F:Nat→Prop} {w:World} {p n:Nat} {st:Sx} (h:PQ F w p n st) {i:Nat} (hi:F i):∀t,Tg w i t→t=51:=by
 obtain ⟨g,tb,ob,ow,h3,h4⟩:=h
 exact (h3.kf (base:=0) (fun _ _=>Nat.zero_le _) i ((h4 i).1 hi)).2
theorem PQ.own {F:Nat→Prop} {w:World} {p n:Nat} {st:Sx} (h:PQ F w p n st):Tg w p 69:=by
 obtain ⟨g,tb,ob,ow,h3,h4⟩:=h
 exact h3.blk.tg
theorem PQ.n1 {F:Nat→Prop} {w:World} {p n:Nat} {st:Sx} (h:PQ F w p n st):1≤n∧n≤65536:=by
 obtain ⟨g,tb,ob,ow,h3,h4⟩:=h
 exact h3.n1
theorem PQ.lt {F:Nat→Prop} {w:World} {p n:Nat} {st:Sx} (h:PQ F w p n st) {i:Nat} (hi:F i):i<w.heap.size:=by
 obtain ⟨g,tb,ob,ow,h3,h4⟩:=h
 obtain ⟨lo,l1,_⟩:=h3.own
 rcases (h4 i).1 hi with rfl|rfl|rfl|⟨o,e⟩
 · exact h3.fr.tg.lt
 · exact h3.tk.lt
 · exact l1.lt
 exact (h3.set o i e).1.lt
theorem PQ.chg {F G:Nat→Prop} {w w':World} {p n:Nat} {st:Sx} (h:PQ F w p n st) (k:Chg G w w') (hG:∀i,F i→¬G i) (hp:¬G p):PQ F w' p n st:=by
 obtain ⟨g,tb,ob,ow,h3,h4⟩:=h
 obtain ⟨lo,l1,l2⟩:=h3.own
 have q:∀i,PF g tb ob ow i→¬G i:=fun i hi=>hG i ((h4 i).2 hi)
 exact ⟨g,tb,ob,ow,⟨k.blk h3.blk hp,h3.n1,h3.fr.chg k (q g (.inl rfl)),h3.tk.chg k (q tb (.inr (.inl rfl))),⟨lo,l1.chg k (q ob (.inr (.inr (.inl rfl)))),l2⟩,fun o sb e=>⟨(h3.set o sb e).1.chg k (q sb (.inr (.inr (.inr ⟨o,e⟩)))),(h3.set o sb e).2⟩,h3.non,h3.inj,h3.ne,h3.fin⟩,h4⟩
theorem tkp_pq {F:Nat→Prop} {w w':World} {p n g tb ob:Nat} {ow:ByteArray→Option Nat} {st':Sx} (h4:∀i,F i↔PF g tb ob ow i) (k:TkP w p n g tb ob ow st' w'):∃F',PQ F' w' p n st'∧Chg F w w'∧Nw w F F':=by
 obtain ⟨ow',hp,hc,hm⟩:=k
 refine ⟨PF g tb ob ow',⟨g,tb,ob,ow',hp,fun i=>Iff.rfl⟩,hc.mono (fun i _ hi=>(h4 i).2 hi),fun i hi=>?_⟩
 rcases hi with e|e|e|⟨o,e⟩
 · exact .inl ((h4 i).2 (.inl e))
 · exact .inl ((h4 i).2 (.inr (.inl e)))
 · exact .inl ((h4 i).2 (.inr (.inr (.inl e))))
 rcases hm o i e with e|e
 · exact .inl ((h4 i).2 (.inr (.inr (.inr ⟨o,e⟩))))
 exact .inr e
theorem newX (n:Nat) (h1:1≤n) (h2:n≤65536) (w:World):Calls Tryz.prog 6 #[.int .i64 (n:Int)] w fun e w'=>∃p F,e=.returned (.tuple #[.pointer (some ⟨p,0,none⟩),.int .i64 0])∧PQ F w' p n (fun _=>none)∧Below w.heap.size w w'∧w.heap.size≤p∧∀i,F i→w.heap.size≤i:=
 (newP n h1 h2 w).mono fun e w' ⟨p,g,tb,ob,he,hp,hb,hz,hf⟩=>⟨p,_,he,⟨g,tb,ob,_,hp,fun i=>Iff.rfl⟩,hb,hz,hf⟩
theorem takeX (o:ByteArray) (F:Nat→Prop) (p n:Nat) (st:Sx) (w:World) (h:PQ F w p n st) (hG:Gv w):
 Calls Tryz.prog 65 #[.pointer (some ⟨p,0,none⟩),.string o] w fun e w'=>e=.returned (takeV st n)∧∃F',PQ F' w' p n (takeS st n o)∧Chg F w w'∧Nw w F F':=by
 have h':=h
 obtain ⟨g,tb,ob,ow,h3,h4⟩:=h
 unfold takeV takeS
 cases hf:fst1 st n with
 |none=>exact (take_none o p n g tb ob ow st w h3 hG hf).mono fun e w' ⟨e1,e2⟩=>⟨e1,F,e2▸h',e2▸Chg.refl _ _,Nw.refl _ _⟩
 |some i=>
  cases ho:ow o with
  |none=>exact (take_new o i p n g tb ob ow st w h3 hG hf ho).mono fun e w' ⟨e1,e2⟩=>⟨e1,tkp_pq h4 e2⟩
  |some sb=>exact (take_old o i sb p n g tb ob ow st w h3 hG hf ho).mono fun e w' ⟨e1,e2⟩=>⟨e1,tkp_pq h4 e2⟩
theorem giveX (k:Int) (F:Nat→Prop) (p n:Nat) (st:Sx) (w:World) (h:PQ F w p n st):
 Calls Tryz.prog 43 #[.pointer (some ⟨p,0,none⟩),.int .i64 k] w fun e w'=>e=.returned (.int .i64 (giveS st n k).1)∧∃F',PQ F' w' p n (giveS st n k).2∧Chg F w w'∧Nw w F F':=by
 have h':=h
 obtain ⟨g,tb,ob,ow,h3,h4⟩:=h
 unfold giveS
 rcases atS_cases st n k with ⟨e1,e2⟩|⟨i,o,d,e1,rfl,hi,hs,e2⟩
 · rw [e1]
   exact (give_none k p n g tb ob ow st w h3 e2).mono fun e w' ⟨e3,b⟩=>⟨e3,F,h'.later b,Chg.of_below b,Nw.refl _ _⟩
 rw [e1]
 exact (give_ok i o d p n g tb ob ow st w h3 hi hs).mono fun e w' ⟨e3,e4⟩=>⟨e3,tkp_pq h4 e4⟩
theorem putX (k:Int) (ad:Option Addr) (len c:Nat) (l:List Int) (F:Nat→Prop) (p n:Nat) (st:Sx) (w:World) (h:PQ F w p n st) (hs:Sl w ad len l) (hl:len≤9223372036854775807):
 Calls Tryz.prog 66 #[.pointer (some ⟨p,0,none⟩),.int .i64 k,.slice ad len c] w fun e w'=>e=.returned (.int .i64 (putS st n k l).1)∧∃F',PQ F' w' p n (putS st n k l).2∧Chg F w w'∧Nw w F F':=by
 have h':=h
 obtain ⟨g,tb,ob,ow,h3,h4⟩:=h
 unfold putS
 rcases atS_cases st n k with ⟨e1,e2⟩|⟨i,o,d,e1,rfl,hi,hst,e2⟩
 · rw [e1]
   exact (put_none k ad len c p n g tb ob ow st w h3 e2).mono fun e w' ⟨e3,b⟩=>⟨e3,F,h'.later b,Chg.of_below b,Nw.refl _ _⟩
 rw [e1]
 simp only
 by_cases hlen:128<l.length
 · rw [if_pos hlen]
   exact (put_long i o d ad len c p n g tb ob ow st w h3 hi hst (by rw [←hs.len];exact hlen) hl).mono fun e w' ⟨e3,b⟩=>⟨e3,F,h'.later b,Chg.of_below b,Nw.refl _ _⟩
 rw [if_neg hlen]
 exact (put_ok i o d ad len c l p n g tb ob ow st w h3 hi hst hs (by rw [←hs.len];omega)).mono fun e w' ⟨e3,hp,hc⟩=>⟨e3,F,⟨g,tb,ob,ow,hp,h4⟩,hc.mono (fun j _ hj=>(h4 j).2 (.inr (.inl hj))),Nw.refl _ _⟩
theorem leftX (F:Nat→Prop) (p n:Nat) (st:Sx) (w:World) (h:PQ F w p n st):Calls Tryz.prog 19 #[.pointer (some ⟨p,0,none⟩)] w fun e w'=>e=.returned (.int .i64 ((n - (tkL st n).length:Nat):Int))∧Below w.heap.size w w':=by
 obtain ⟨g,tb,ob,ow,h3,h4⟩:=h
 exact leftP p n g tb ob ow st w h3
theorem usedX (o:ByteArray) (F:Nat→Prop) (p n:Nat) (st:Sx) (w:World) (h:PQ F w p n st):Calls Tryz.prog 28 #[.pointer (some ⟨p,0,none⟩),.string o] w fun e w'=>e=.returned (.int .i64 ((setL st n o).length:Int))∧w'=w:=by
 obtain ⟨g,tb,ob,ow,h3,h4⟩:=h
 exact usedP o p n g tb ob ow st w h3
def Rw (w:World) (t:TypeId) (v:Value) (xs:List Value):Prop:=
 (v=.slice none 0 0∧xs=[])∨∃g cap cur mk,v=.slice (some ⟨g,0,none⟩) xs.length cap∧w.heap[g]?=some (.cells cur t mk)∧(mk=(0,0)∨mk=(cap,cap+1))∧cur.size=cap∧xs.length≤cap∧cap≤maxLen∧cur.toList.take xs.length=xs
theorem rw_bytes (w:World) (d:ByteArray) (hd:d.size≤maxLen):Rw (Lib.bytesWorld w 5 d) 5 (.slice (some ⟨w.heap.size,0,none⟩) d.size (grownCap w d.size 0 5)) (zae (bts d)):=by
 have hz:w.drew.heap=w.heap:=rfl
 have hcap:=grownCap_ge w d.size 0 5
 have hsz:(Lib.bytesCells w 5 d).size=grownCap w d.size 0 5:=by
  unfold Lib.bytesCells
  simp
  omega
 have hl:(zae (bts d)).length=d.size:=by rw [zaf,bts_length]
 refine .inr ⟨w.heap.size,grownCap w d.size 0 5,Lib.bytesCells w 5 d,(grownCap w d.size 0 5,grownCap w d.size 0 5+1),by rw [hl],?_,.inr rfl,hsz,by rw [hl];exact hcap,grownCap_le_maxLen w _ _ _ hd,?_⟩
 · unfold Lib.bytesWorld World.freeze
   rw [if_neg (by omega)]
   simp [World.alloc,hz,Array.getElem_modify,hsz]
 rw [hl]
 unfold Lib.bytesCells zae bts
 rw [Array.toList_append,List.take_append_of_le_length (by simp),List.take_of_length_le (by simp)]
 simp
theorem get_someX (k:Int) (o d:ByteArray) (p n g tb ob:Nat) (ow:ByteArray→Option Nat) (st:Sx) (w:World) (h:Pl w p n g tb ob ow st) (hk:al (tkL st n) k=some (leV o d)) (hd:d.size≤maxLen):Calls Tryz.prog 57 #[.pointer (some ⟨p,0,none⟩),.int .i64 k] w fun e w'=>∃ga c,e=.returned (.tuple #[.slice (some ⟨ga,0,none⟩) d.size c,.int .i64 0])∧w.heap.size≤ga∧Sl w' (some ⟨ga,0,none⟩) d.size (bts d)∧Below w.heap.size w w'∧Rw w' 5 (.slice (some ⟨ga,0,none⟩) d.size c) (zae (bts d)):=by
 obtain ⟨c0,c1,c2,c3⟩:=h.cells
 have l1:=h.lookT k
 rw [hk] at l1
 simp only [Option.getD_some,Option.isSome_some,leV] at l1
 have hcv:=fun (w:World)=>Lib.run_convert_string_bytes (P:=Tryz.prog) w 9 84 5 d Tryz.underlying9 Tryz.underlying84 Tryz.underlying5
 have hs:=fun (w:World)=>sl_bytes w d
 have hbw:=fun (w:World)=>Go.Joins.below_bytesWorld w.heap.size w 5 d (Nat.le_refl _)
 have HS:=zaa hs
 have HBW:=zaa hbw
 have HD:=zaa hd
 clear h hk c0 c1 c3 hs hbw hd
 go_enter Tryz.func57,Tryz.ntmps57
 go_wp2_with fail
 go_ret2
 have hs9:=HS.out (w.alloc (Obj.cells #[.string o,.string d] 131))
 have hr9:=rw_bytes (w.alloc (Obj.cells #[.string o,.string d] 131)) d HD.out
 rw [World.size_alloc] at hs9 hr9
 refine ⟨_,_,rfl,?_,hs9,?_,hr9⟩
 · simp
 exact ((Below.refl _ _).alloc (Nat.le_refl _) _).trans ((HBW.out _).mono (by simp))
theorem getX (k:Int) (F:Nat→Prop) (p n:Nat) (st:Sx) (w:World) (h:PQ F w p n st) (hd:∀i o d,st i=some (o,d)→d.size≤128):
 Calls Tryz.prog 57 #[.pointer (some ⟨p,0,none⟩),.int .i64 k] w fun e w'=>Below w.heap.size w w'∧((atS st n k=none∧e=.returned (.tuple #[.slice none 0 0,.int .i64 111]))∨
  ∃i o d ga c,atS st n k=some (i,o,d)∧e=.returned (.tuple #[.slice (some ⟨ga,0,none⟩) d.size c,.int .i64 0])∧w.heap.size≤ga∧Sl w' (some ⟨ga,0,none⟩) d.size (bts d)∧Rw w' 5 (.slice (some ⟨ga,0,none⟩) d.size c) (zae (bts d))):=by
 obtain ⟨g,tb,ob,ow,h3,h4⟩:=h
 rcases atS_cases st n k with ⟨e1,e2⟩|⟨i,o,d,e1,rfl,hi,hst,e2⟩
 · exact (get_none k p n g tb ob ow st w h3 e2).mono fun e w' ⟨e3,b⟩=>⟨b,.inl ⟨e1,e3⟩⟩
 exact (get_someX _ o d p n g tb ob ow st w h3 e2 (by have:=hd i o d hst;unfold maxLen;omega)).mono fun e w' ⟨ga,c,e3,z,s,b,t⟩=>⟨b,.inr ⟨i,o,d,ga,c,e1,e3,z,s,t⟩⟩
end Go.Proofs.YtlppibigceeimaaGreatDoor.K
