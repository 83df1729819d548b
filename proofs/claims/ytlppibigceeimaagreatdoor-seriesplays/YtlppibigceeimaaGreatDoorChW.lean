import Derived.Test.YtlppibigceeimaaGreatDoorChS
set_option linter.unusedSimpArgs false
set_option linter.unusedVariables false
set_option maxHeartbeats 40000000
set_option maxRecDepth 100000
namespace Go.Proofs.YtlppibigceeimaaGreatDoor
open Go.RowKit
theorem zfh {P:Program} (w:World) {ops:Array Oper} {o:Oper} {a:Act} {K:Act→World→Prop} {Q:Exit→Act→World→Prop} {E:Prop} (hgd:o.guard=none) (s x:Operand) (t:TypeId)
 (ho:o.op=.call { callee:=.builtin .append,args:=#[s,x],argTypes:=#[t,t] })
 (base:Nat) (e:TypeId) (i:TypeInfo) (z:Value) (ht:P.underlying t=some (.slice e)) (hi:P.info? e=some i) (hz:i.zero=some z)
 (hsize:i.size=1) (hby:i.bytes=1) (hzs:z.cells.size=1)
 (v:Value) (n:Nat) (xs:List Int) (hs:a.eval s=v) (hown:w.ownsRow base e 1 v n (zae xs))
 (ad:Addr) (m c:Nat) (l:List Int) (hx:a.eval x=.slice (some ad) m c) (hsl:Sl w (some ad) m l)
 (hbytes:n+m≤140737488355328) (hbase:base≤w.heap.size)
 (h:∀ad' c' w',w'.ownsRow base e 1 (.slice ad' (n+m) c') (n+m) (zae (xs++l))→w.grownBy w' v.ownBlock→K (a.put o.dst (.slice ad' (n+m) c')) w'):
 if Region.wanted o (yielded ops a.tmps)=true then Oper.wp P o a w K Q else E:=by
 have hw:Region.wanted o (yielded ops a.tmps)=true:=by simp [Region.wanted,hgd]
 rw [if_pos hw]
 obtain ⟨v',w',hr,h1,h2,_⟩:=run_append_own (P:=P) w base t o.type e i z 1 1 ht hi hz hsize hby hzs (by omega) v n (zae xs) hown ad m c (zae l) (by rw [zaf,hsl.len];omega) hsl.cells (zce l) (by unfold maxLen;omega) (by omega) hbase
 obtain ⟨ad',c',rfl⟩:=zal h1
 rw [←za2] at h1
 unfold Oper.wp
 simp [execOp,ho,resolve,invoke,builtin,hs,hx,hr,Result.andThen]
 exact h ad' c' w' h1 h2
theorem zez {ops:Array Oper} {o:Oper} {a:Act} {w:World} {K:Act→World→Prop} {Q:Exit→Act→World→Prop} {E:Prop} (hgd:o.guard=none) (f:FuncId) (args:Array Value) (h:(execOp a.eval o).run Tryz.prog w=.ok (.enter f args) w) (R:Value→World→Prop) (hc:Calls Tryz.prog f args w fun e w'=>∃v,e=.returned v∧R v w')
 (hK:∀v w',R v w'→K (a.put o.dst v) w'):if Region.wanted o (yielded ops a.tmps)=true then Oper.wp Tryz.prog o a w K Q else E:=by
 have hw:Region.wanted o (yielded ops a.tmps)=true:=by simp [Region.wanted,hgd]
 rw [if_pos hw]
 unfold Oper.wp
 rw [h]
 refine Calls.mono hc ?_
 rintro e w' ⟨v,rfl,h1⟩
 exact hK v w' h1
def BtP (w:World) (b:List Int) (e:Ending) (w':World):Prop:=∃ad c,e=.returned (.slice ad b.length c)∧w'.ownsRow w.heap.size 5 1 (.slice ad b.length c) b.length (zae b)∧Below w.heap.size w w'
theorem btp_of {w w':World} {l:List Sm} (hl:l≠[]) {ad:Option Addr} {n c:Nat} {b:List Int} (hb:b=encC l) (hn:b.length=n) (h:w'.ownsRow w.heap.size 5 1 (.slice ad n c) n (zae b)) (hbl:Below w.heap.size w w'):BtP w (encC l) (.returned (.slice ad n c)) w':=by
 subst hb hn
 exact ⟨ad,c,rfl,h,hbl⟩
theorem pk_of {R:List Int} {L:List Bool} (h:Rep R L) (hb:Byte R) (hl:R.length=(L.length+7) / 8):R=pk L:=Rep.unique h (pk_rep L) (by rw [zc9];exact hl) hb (zgb L)
theorem cbytesP (w:World) (c p:Nat) (rb:Option Nat) (most:Int) (l:List Sm) (h:CS w c p rb most l) (hl:l.length≤1000000):
 Calls Tryz.prog 85 #[.pointer (some ⟨c,0,none⟩)] w (BtP w (encC l)):=by
 have c1:=h.blk.cell 1
 have c5:=h.blk.cell 5
 simp [chC] at c1 c5
 by_cases h0:l=[]
 · subst h0
   clear h
   simp only [List.length_nil] at c1
   go_enter Tryz.func85,Tryz.ntmps85
   go_wp2
   go_ret
   exact ⟨none,0,rfl,World.ownsRow_nil _ _ _ _,Below.refl _ _⟩
 have hn:1≤l.length:=by cases l;exact absurd rfl h0;simp
 have HCS:=zaa h
 have HE:Hid (encC l=Q.enc l.length++pk (rowB l)):=zaa (by unfold encC;rw [if_neg h0])
 have hrl:=zf5 h.ok
 have hgr:=Q.grp_le l.length
 obtain ⟨gk,hgk⟩:∃gk,Q.grp l.length+1=gk:=⟨_,rfl⟩
 obtain ⟨k,hk⟩:∃k,((rowB l).length+7) / 8=k:=⟨_,rfl⟩
 have hk0:0<k:=by
  have h2:128≤(rowB l).length:=by
   cases l with
   |nil=>exact absurd rfl h0
   |cons s t=>simp [rowB,fiB,zaq];omega
  omega
 have HCO:Hid (∀wx,Calls Tryz.prog 103 #[.int .i64 (l.length:Int)] wx fun e w'=>∃v,e=.returned v∧((∃ad c',v=.slice ad gk c')∧w'.ownsRow wx.heap.size 5 1 v gk (zae (Q.enc l.length))∧Below wx.heap.size wx w')):=zaa (fun wx=>by
  refine (countP wx l.length (by omega)).mono ?_
  rintro e w' ⟨rfl,h1,h2⟩
  refine ⟨_,rfl,⟨some ⟨wx.heap.size,0,none⟩,0+(Q.grp l.length+1),by rw [←hgk,Nat.zero_add]⟩,?_,h2⟩
  rw [List.nil_append] at h1
  rw [←hgk]
  simpa using h1)
 have HBY:Hid (∀wx,Below w.heap.size w wx→Calls Tryz.prog 106 #[.pointer (some ⟨p,0,none⟩)] wx fun e w'=>∃v,e=.returned v∧((∃g c',v=.slice (some ⟨g,0,none⟩) k c'∧Sl w' (some ⟨g,0,none⟩) k (pk (rowB l)))∧Below wx.heap.size wx w')):=zaa (fun wx hb=>by
  refine (bytes_any p rb (rowB l) wx (h.ws.later hb) (by omega)).mono ?_
  rintro e w' ⟨ad',c',R,rfl,r1,r2,r3,r4,r5⟩
  have hR:R=pk (rowB l):=pk_of r4 r3 r1
  rw [hk] at r2
  rcases r2.2 with ⟨_,e0⟩|⟨g,cap,cur,e0,_⟩
  · omega
  injection e0 with e1 e2 e3
  subst e1
  refine ⟨_,rfl,⟨g,c',by rw [hk],?_⟩,r5⟩
  rw [←hR]
  exact zbp r2 r3)
 have hne:¬(l.length:Int)=0:=by omega
 have C5:=zaa (fun wx (hb:Below w.heap.size w wx)=>by have:=(h.later hb).blk.cell 5;simpa [chC] using this)
 have HFI:Hid (∀(w':World) ad c',w'.ownsRow w.heap.size 5 1 (.slice ad (gk+k) c') (gk+k) (zae (Q.enc l.length++pk (rowB l)))→Below w.heap.size w w'→BtP w (encC l) (.returned (.slice ad (gk+k) c')) w'):=zaa (fun w' ad c' h1 h2=>btp_of h0 HE.out.symm (by rw [List.length_append,Q.enc_length,zc9,hgk,hk]) h1 h2)
 obtain ⟨i0,hi,hz0,hz1,hz2⟩:=info_parts ze6
 have hgk2:gk≤100:=by omega
 have hk2:k≤1000000000:=by omega
 clear h h0 hgk hk HE HCS
 generalize l.length=n at*
 go_enter Tryz.func85,Tryz.ntmps85
 go_wp2_with fail
 go_region_law (first
  |(refine zez (by rfl) 103 #[.int .i64 (n:Int)] (by simp [execOp,resolve,Act.eval,go_sem]) _ (HCO.out _) ?_
    rintro v1 w1 ⟨⟨ad1,cp1,rfl⟩,o1,b1⟩
    have O1:=zaa o1
    have B1:Hid (Below w.heap.size w w1):=zaa (((Below.refl _ _).drew).trans b1)
    have d5:=C5.out _ B1.out
    clear o1 b1)
  |(refine zez (by rfl) 106 #[.pointer (some ⟨p,0,none⟩)] (by simp [execOp,resolve,Act.eval,go_sem]) _ (HBY.out _ B1.out) ?_
    rintro v2 w2 ⟨⟨g2,cp2,rfl,s2⟩,b2⟩
    have O2:=zaa (owl O1.out b2)
    have S2:=zaa s2
    have B2:Hid (Below w.heap.size w w2):=zaa (B1.out.trans (b2.mono B1.out.size))
    clear s2 b2)
  |(refine zfh _ (by rfl) (.tmp 12) (.tmp 18) 84 (by rfl) w.heap.size 5 i0 (.int .u8 0) Tryz.underlying84 hi hz0 hz1 hz2 (by rfl) (.slice ad1 gk cp1) gk (Q.enc n) (by rfl) O2.out ⟨g2,0,none⟩ k cp2 (pk (rowB l)) (by rfl) S2.out (by omega) B2.out.size ?_
    intro ad3 cp3 w3 o3 g3
    have F3:=zaa (HFI.out w3 ad3 cp3 o3 (B2.out.trans (zcm g3 O2.out B2.out.size)))
    clear o3 g3))
 all_goals
  go_wp2
  go_ret
  exact F3.out
theorem run_pushN {P:Program} (w:World) (t ty e:TypeId) (i:TypeInfo) (z:Value) (sz bytes:Nat) (ht:P.underlying t=some (.slice e)) (hi:P.info? e=some i) (hz:i.zero=some z)
 (hsize:i.size=sz) (hby:i.bytes=bytes) (hzs:z.cells.size=sz) (hp:0<sz) (base:Nat) (v:Value) (n:Nat) (xs:List Value) (hown:w.ownsRow base e sz v n xs)
 (ad:Addr) (news:List Value) (hl:news.length=sz) (hnews:∀j u,news[j]?=some u→w.cell? (ad.add j)=some u) (hone:∀x∈news,x.oneCell'=true) (h63:n+1≤maxLen) (hbytes:(n+1)*bytes≤140737488355328) (hbase:base≤w.heap.size):
 ∃g' c' w',(Builtin.append_ #[t,t] ty #[v,.slice (some ad) 1 1]).run P w=.ok (.slice (some ⟨g',0,none⟩) (n+1) c') w'∧
  w'.ownsRow base e sz (.slice (some ⟨g',0,none⟩) (n+1) c') (n+1) (xs++news)∧Pushed w w' v g':=by
 have hl1:news.length=1*sz:=by omega
 rcases hown.2 with ⟨rfl,rfl⟩|⟨g,cap,cur,rfl,hbg,hg,hnc,hcm,hcs,htake⟩
 · have hxs:xs=[]:=List.eq_nil_of_length_eq_zero (by simpa using hown.1)
   subst hxs
   obtain ⟨v',w',hr,ho,hgr,hiff⟩:=run_append_own (P:=P) w w.heap.size t ty e i z sz bytes ht hi hz hsize hby hzs hp (.slice none 0 0) 0 [] (World.ownsRow_nil _ _ _ _) ad 1 1 news hl1 hnews hone h63 hbytes (Nat.le_refl _)
   rcases ho.2 with ⟨_,h0⟩|⟨g',c',cur',rfl,hb',hh,hrest⟩
   · omega
   exact ⟨g',c',w',by simpa using hr,⟨by simp [hl],.inr ⟨g',c',cur',rfl,by omega,hh,by simpa using hrest⟩⟩,.inr ⟨hb',by simpa [Value.ownBlock] using hgr⟩⟩
 by_cases hroom:n+1≤cap
 · obtain ⟨w',hr,ho,hgr⟩:=run_append_fits (P:=P) w base t ty e i sz ht hi hsize g n cap xs hown ad 1 1 news hl1 hnews hone hroom
   exact ⟨g,cap,w',hr,ho,.inl ⟨rfl,hgr⟩⟩
 obtain ⟨v',w',hr,ho,hgr⟩:=run_append_arg_grows (P:=P) w t ty e i z sz bytes ht hi hz hsize hby hzs hp ⟨g,0,none⟩ n cap xs hown.1 (hown.cells rfl) ad 1 1 news hl1 hnews (by omega) h63 hbytes
 rcases ho.2 with ⟨_,h0⟩|⟨g',c',cur',rfl,hb',hh,hrest⟩
 · omega
 exact ⟨g',c',w',hr,⟨by rw [List.length_append,hown.1,hl,Nat.add_mul,Nat.one_mul],.inr ⟨g',c',cur',rfl,by omega,hh,hrest⟩⟩,.inr ⟨hb',hgr⟩⟩
theorem wp_pushN {P:Program} (w:World) {o:Oper} {a:Act} {K:Act→World→Prop} {Q:Exit→Act→World→Prop} (s x:Operand) (t:TypeId)
 (ho:o.op=.call { callee:=.builtin .append,args:=#[s,x],argTypes:=#[t,t] }) (e:TypeId) (i:TypeInfo) (z:Value) (sz bytes:Nat) (ht:P.underlying t=some (.slice e)) (hi:P.info? e=some i) (hz:i.zero=some z)
 (hsize:i.size=sz) (hby:i.bytes=bytes) (hzs:z.cells.size=sz) (hp:0<sz) (base:Nat) (v:Value) (n:Nat) (xs:List Value) (hs:a.eval s=v) (hown:w.ownsRow base e sz v n xs)
 (ad:Addr) (news:List Value) (hx:a.eval x=.slice (some ad) 1 1) (hl:news.length=sz) (hnews:∀j u,news[j]?=some u→w.cell? (ad.add j)=some u) (hone:∀x∈news,x.oneCell'=true) (h63:n+1≤maxLen) (hbytes:(n+1)*bytes≤140737488355328) (hbase:base≤w.heap.size)
 (h:∀g' c' w',w'.ownsRow base e sz (.slice (some ⟨g',0,none⟩) (n+1) c') (n+1) (xs++news)→Pushed w w' v g'→K (a.put o.dst (.slice (some ⟨g',0,none⟩) (n+1) c')) w'):o.wp P a w K Q:=by
 obtain ⟨g',c',w',hr,h2,h3⟩:=run_pushN (P:=P) w t o.type e i z sz bytes ht hi hz hsize hby hzs hp base v n xs hown ad news hl hnews hone h63 hbytes hbase
 unfold Oper.wp
 simp [execOp,ho,resolve,invoke,builtin,hs,hx,hr,Result.andThen]
 exact h g' c' w' h2 h3
theorem wpList_pushN {P:Program} (w:World) {ops:Array Oper} {rest:List Oper} {o:Oper} {a:Act} {Q:Exit→Act→World→Prop} (hgd:o.guard=none) (s x:Operand) (t:TypeId)
 (ho:o.op=.call { callee:=.builtin .append,args:=#[s,x],argTypes:=#[t,t] }) (e:TypeId) (i:TypeInfo) (z:Value) (sz bytes:Nat) (ht:P.underlying t=some (.slice e)) (hi:P.info? e=some i) (hz:i.zero=some z)
 (hsize:i.size=sz) (hby:i.bytes=bytes) (hzs:z.cells.size=sz) (hp:0<sz) (base:Nat) (v:Value) (n:Nat) (xs:List Value) (hs:a.eval s=v) (hown:w.ownsRow base e sz v n xs)
 (ad:Addr) (news:List Value) (hx:a.eval x=.slice (some ad) 1 1) (hl:news.length=sz) (hnews:∀j u,news[j]?=some u→w.cell? (ad.add j)=some u) (hone:∀x∈news,x.oneCell'=true) (h63:n+1≤maxLen) (hbytes:(n+1)*bytes≤140737488355328) (hbase:base≤w.heap.size)
 (h:∀g' c' w',w'.ownsRow base e sz (.slice (some ⟨g',0,none⟩) (n+1) c') (n+1) (xs++news)→Pushed w w' v g'→wpList P ops Q rest (a.put o.dst (.slice (some ⟨g',0,none⟩) (n+1) c')) w'):wpList P ops Q (o :: rest) a w:=
 wpList_plain hgd fun _ hK=>wp_pushN w s x t ho e i z sz bytes ht hi hz hsize hby hzs hp base v n xs hs hown ad news hx hl hnews hone h63 hbytes hbase fun g' c' w' h2 h3=>hK _ _ (h g' c' w' h2 h3)
end Go.Proofs.YtlppibigceeimaaGreatDoor
namespace Go.Proofs.YtlppibigceeimaaGreatDoor
open Go Go.RowKit
theorem follow_r4 (g off g1 off1 n1 n2 c1 c2 q:Nat) (ty tz:Int) (b:Bool) (w:World) (a0:Act) (Q:Exit→Act→World→Prop) (hsz:a0.tmps.size=52)
 (s0:a0.tmps.getD 0 undef=.slice (some ⟨g1,off1,none⟩) n1 c1)
 (s1:a0.tmps.getD 1 undef=.slice (some ⟨g,off,none⟩) n2 c2)
 (s5:a0.tmps.getD 5 undef=.int .i64 0)
 (hn1n:0<n1)
 (hn2n:¬n2=0)
 (e1:(n1:Int) - 1=(q:Int))
 (hwq:IntKind.i64.wrap (q:Int)=(q:Int))
 (hq1:(q:Int)<(n1:Int))
 (cof53:Tryz.prog.cellsOf 53=2)
 (fof53:True)
 (hb:decide (ty≤tz)=b)
 (hy:∀w1,Lat w w1→w1.cell? ⟨g,off,none⟩=some (.int .i64 ty))
 (hz:∀w1,Lat w w1→w1.cell? ⟨g1,off1+q*2,none⟩=some (.int .i64 tz))
 (hQ:∀(v12 v13 v14 v15 v16 v17 v18 v19 v20 v21 v22 v23 v24 v25 v26 v27 v28 v29 v30 v31 v32 v33 v34 v35 v36 v37 v38 v39 v40 v41 v42 v43 v44 v45 v46 v47 v48 v49 v50:Value) (w1:World),Lat w w1→Q .normal ((((((((((((((((((((((((((((((((((((((((a0.put (some 12) v12).put (some 13) v13).put (some 14) v14).put (some 15) v15).put (some 16) v16).put (some 17) v17).put (some 18) v18).put (some 19) v19).put (some 20) v20).put (some 21) v21).put (some 22) v22).put (some 23) v23).put (some 24) v24).put (some 25) v25).put (some 26) v26).put (some 27) v27).put (some 28) v28).put (some 29) v29).put (some 30) v30).put (some 31) v31).put (some 32) v32).put (some 33) v33).put (some 34) v34).put (some 35) v35).put (some 36) v36).put (some 37) v37).put (some 38) v38).put (some 39) v39).put (some 40) v40).put (some 41) v41).put (some 42) v42).put (some 43) v43).put (some 44) v44).put (some 45) v45).put (some 46) v46).put (some 47) v47).put (some 48) v48).put (some 49) v49).put (some 50) v50).put (some 51) (.bool b)) w1):
 Code.wp Tryz.prog ((Tryz.f47.body.bind (zag 4)).getD .skip) Q a0 w:=by
 conv=>arg 2;whnf
 refine zay Lat (TV [.int .i64 0,.bool false,.bool false,undef,undef,undef,undef,undef,undef,undef,undef,undef,undef,undef,undef,.bool false,.bool false,.int .i64 0,.bool true,.bool true,.slice (some ⟨g1,off1,none⟩) n1 c1,.int .i64 (n1:Int),.bool true,.bool true,.bool true,.slice (some ⟨g,off,none⟩) n2 c2,.int .i64 0,.pointer (some ⟨g,off,none⟩),.pointer (some ⟨g,off,none⟩),.int .i64 ty,.slice (some ⟨g1,off1,none⟩) n1 c1,.slice (some ⟨g1,off1,none⟩) n1 c1,.int .i64 (n1:Int),.int .i64 (q:Int),.pointer (some ⟨g1,off1+q*2,none⟩),.pointer (some ⟨g1,off1+q*2,none⟩),.int .i64 tz,.bool b,.bool b,.bool b]) (by kernel_rfl) (by kernel_rfl) (by kernel_rfl) (by rw [hsz];kernel_rfl) (by kernel_rfl) Lat.refl Lat.trans (TV.stable _) (Lat.draw w) ?hop ?hdone
 case hdone=>
  intro a w1 hL hS hT
  have k51:a.tmps.getD 51 undef=.bool b:=hT 39 _ rfl _ rfl
  have he:=zam hS
  have hQ2:=hQ (a.tmps.getD 12 undef) (a.tmps.getD 13 undef) (a.tmps.getD 14 undef) (a.tmps.getD 15 undef) (a.tmps.getD 16 undef) (a.tmps.getD 17 undef) (a.tmps.getD 18 undef) (a.tmps.getD 19 undef) (a.tmps.getD 20 undef) (a.tmps.getD 21 undef) (a.tmps.getD 22 undef) (a.tmps.getD 23 undef) (a.tmps.getD 24 undef) (a.tmps.getD 25 undef) (a.tmps.getD 26 undef) (a.tmps.getD 27 undef) (a.tmps.getD 28 undef) (a.tmps.getD 29 undef) (a.tmps.getD 30 undef) (a.tmps.getD 31 undef) (a.tmps.getD 32 undef) (a.tmps.getD 33 undef) (a.tmps.getD 34 undef) (a.tmps.getD 35 undef) (a.tmps.getD 36 undef) (a.tmps.getD 37 undef) (a.tmps.getD 38 undef) (a.tmps.getD 39 undef) (a.tmps.getD 40 undef) (a.tmps.getD 41 undef) (a.tmps.getD 42 undef) (a.tmps.getD 43 undef) (a.tmps.getD 44 undef) (a.tmps.getD 45 undef) (a.tmps.getD 46 undef) (a.tmps.getD 47 undef) (a.tmps.getD 48 undef) (a.tmps.getD 49 undef) (a.tmps.getD 50 undef) w1 hL
  rw [←k51] at hQ2
  rw [he]
  exact hQ2
 case hop=>
  intro i o hi
  have hlt:i<40:=(Array.getElem?_eq_some_iff.1 hi).1
  rcases (show i=0∨i=1∨i=2∨i=3∨i=4∨i=5∨i=6∨i=7∨i=8∨i=9∨i=10∨i=11∨i=12∨i=13∨i=14∨i=15∨i=16∨i=17∨i=18∨i=19∨i=20∨i=21∨i=22∨i=23∨i=24∨i=25∨i=26∨i=27∨i=28∨i=29∨i=30∨i=31∨i=32∨i=33∨i=34∨i=35∨i=36∨i=37∨i=38∨i=39 by omega) with rfl|rfl|rfl|rfl|rfl|rfl|rfl|rfl|rfl|rfl|rfl|rfl|rfl|rfl|rfl|rfl|rfl|rfl|rfl|rfl|rfl|rfl|rfl|rfl|rfl|rfl|rfl|rfl|rfl|rfl|rfl|rfl|rfl|rfl|rfl|rfl|rfl|rfl|rfl|rfl
  all_goals obtain rfl:=Option.some.inj hi
  all_goals clear hi hlt
  all_goals intro a w1 hL hS hD
  · exact zy rfl (by simp [execOp,Act.eval,zs hS s5,go_sem])
  · exact zy rfl (by simp [execOp,Act.eval,zd hD 0 12,go_sem])
  · exact zy rfl (by simp [execOp,Act.eval,zd hD 1 13,go_sem])
  · exact zn (zg hD 2 14)
  · exact zn (zg hD 2 14)
  · exact zn (zg hD 2 14)
  · exact zn (zg hD 2 14)
  · exact zn (zg hD 2 14)
  · exact zn (zg hD 2 14)
  · exact zn (zg hD 2 14)
  · exact zn (zg hD 2 14)
  · exact zn (zg hD 2 14)
  · exact zn (zg hD 2 14)
  · exact zn (zg hD 2 14)
  · exact zn (zg hD 2 14)
  · exact zy rfl (by simp [execOp,Act.eval,zd hD 2 14,zd hD 14 26,go_sem])
  · exact zy rfl (by simp [execOp,Act.eval,zd hD 15 27,go_sem])
  · exact zyg (zg hD 16 28) rfl (by simp [execOp,Act.eval,zs hS s5,go_sem])
  · exact zyg (zg hD 16 28) rfl (by simp [execOp,Act.eval,zd hD 17 29,go_sem])
  · exact zyg (zg hD 16 28) rfl (by simp [execOp,Act.eval,zd hD 18 30,go_sem])
  · exact zyg (zg hD 19 31) rfl (by simp [execOp,Act.eval,zs hS s0,go_sem])
  · exact zyg (zg hD 19 31) rfl (by simp [execOp,Act.eval,zd hD 20 32,go_sem])
  · exact zyg (zg hD 19 31) rfl (by simp [execOp,Act.eval,zd hD 21 33,hn1n,go_sem])
  · exact zyg (zg hD 16 28) rfl (by simp [execOp,Act.eval,zd hD 19 31,zd hD 22 34,go_sem])
  · exact zyg (zg hD 16 28) rfl (by simp [execOp,Act.eval,zd hD 23 35,go_sem])
  · exact zyg (zg hD 24 36) rfl (by simp [execOp,Act.eval,zs hS s1,go_sem])
  · exact zyg (zg hD 24 36) rfl (by simp [execOp,Act.eval,zs hS s5,go_sem])
  · exact zyg (zg hD 24 36) rfl (by simp [execOp,Act.eval,zd hD 25 37,zd hD 26 38,hn2n,cof53,go_sem])
  · exact zyg (zg hD 24 36) rfl (by simp [execOp,Act.eval,zd hD 27 39,fof53,go_sem])
  · exact zyg (zg hD 24 36) rfl (by simp [execOp,Act.eval,zd hD 28 40,hy w1 hL,go_sem])
  · exact zyg (zg hD 24 36) rfl (by simp [execOp,Act.eval,zs hS s0,go_sem])
  · exact zyg (zg hD 24 36) rfl (by simp [execOp,Act.eval,zs hS s0,go_sem])
  · exact zyg (zg hD 24 36) rfl (by simp [execOp,Act.eval,zd hD 31 43,go_sem])
  · exact zyg (zg hD 24 36) rfl (by simp [execOp,Act.eval,zd hD 32 44,e1,hwq,go_sem])
  · exact zyg (zg hD 24 36) rfl (by simp [execOp,Act.eval,zd hD 30 42,zd hD 33 45,hq1,cof53,go_sem])
  · exact zyg (zg hD 24 36) rfl (by simp [execOp,Act.eval,zd hD 34 46,fof53,go_sem])
  · exact zyg (zg hD 24 36) rfl (by simp [execOp,Act.eval,zd hD 35 47,hz w1 hL,go_sem])
  · exact zyg (zg hD 24 36) rfl (by simp [execOp,Act.eval,zd hD 29 41,zd hD 36 48,hb,go_sem])
  · exact zyg (zg hD 16 28) rfl (by simp [execOp,Act.eval,zd hD 24 36,zd hD 37 49,go_sem])
  exact zy rfl (by simp [execOp,Act.eval,zd hD 16 28,zd hD 38 50,go_sem])
end Go.Proofs.YtlppibigceeimaaGreatDoor
