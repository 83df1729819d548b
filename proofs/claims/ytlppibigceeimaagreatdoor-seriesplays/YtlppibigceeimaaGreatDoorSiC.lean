import Derived.Test.YtlppibigceeimaaGreatDoorSeT
set_option linter.unusedSimpArgs false
set_option linter.unusedVariables false
set_option maxHeartbeats 40000000
set_option maxRecDepth 100000
namespace Go.Proofs.YtlppibigceeimaaGreatDoor
open Go Go.RowKit
theorem lk_r27a (v g0 g1 ga gx nb c0 c1 ma ac m xc i z:Nat) (x y:Int) (w:World) (a0:Act) (Q:Exit→Act→World→Prop) (hsz:a0.tmps.size=177)
 (s0:a0.tmps.getD 0 undef=.pointer (some ⟨v,0,none⟩))
 (s3:a0.tmps.getD 3 undef=.slice (some ⟨g1,0,none⟩) nb c1)
 (s11:a0.tmps.getD 11 undef=.int .i64 (i:Int))
 (s12:a0.tmps.getD 12 undef=.int .i64 (z:Int))
 (hi:(i:Int)<(nb:Int)) (hi0:¬(i:Int)<0) (hz:(z:Int)<(ma:Int)) (hz0:¬(z:Int)<0) (cof46:Tryz.prog.cellsOf 46=1) (cof53:Tryz.prog.cellsOf 53=2)
 (cA:∀w1,Lat w w1→w1.cell? ⟨g1,i,none⟩=some (.slice (some ⟨ga,0,none⟩) ma ac))
 (p0:∀w1,Lat w w1→w1.cell? ⟨ga,z*2,none⟩=some (.int .i64 x)) (p1:∀w1,Lat w w1→w1.cell? ⟨ga,z*2+1,none⟩=some (.int .u64 y))
 (cF:∀w1,Lat w w1→w1.cell? ⟨v,8,none⟩=some (.slice (some ⟨g0,0,none⟩) nb c0))
 (hmk:∀w1,Lat w w1→Calls Tryz.prog 33 #[.int .i64 (i:Int)] w1 fun e w2=>e=.returned (.agg #[.int .i64 x,.int .u64 y])∧Lat w1 w2)
 (hzm:(z:Int)<(m:Int)) (cX:∀w1,Lat w w1→w1.cell? ⟨g0,i,none⟩=some (.slice (some ⟨gx,0,none⟩) m xc)) (x0:∀w1,Lat w w1→w1.cell? ⟨gx,z*2,none⟩=some (.int .i64 x)) (x1:∀w1,Lat w w1→w1.cell? ⟨gx,z*2+1,none⟩=some (.int .u64 y))
 (hQ:∀(v88 v89 v90 v91 v92 v93 v94 v95 v96 v97 v98 v99 v100 v101 v102 v103 v104 v105 v106 v107 v108 v109 v110 v111 v112 v113 v114 v115 v116 v117 v118 v119 v120 v121 v122 v123:Value) (w1:World),Lat w w1→Q .normal (((((((((((((((((((((((((((((((((((((a0.put (some 88) v88).put (some 89) v89).put (some 90) v90).put (some 91) v91).put (some 92) v92).put (some 93) v93).put (some 94) v94).put (some 95) v95).put (some 96) v96).put (some 97) v97).put (some 98) v98).put (some 99) v99).put (some 100) v100).put (some 101) v101).put (some 102) v102).put (some 103) v103).put (some 104) v104).put (some 105) v105).put (some 106) v106).put (some 107) v107).put (some 108) v108).put (some 109) v109).put (some 110) v110).put (some 111) v111).put (some 112) v112).put (some 113) v113).put (some 114) v114).put (some 115) v115).put (some 116) v116).put (some 117) v117).put (some 118) v118).put (some 119) v119).put (some 120) v120).put (some 121) v121).put (some 122) v122).put (some 123) v123).put (some 124) (.bool false)) w1):
 Code.wp Tryz.prog ((Tryz.f11.body.bind (zag 27)).getD .skip) Q a0 w:=by
 conv=>arg 2;whnf
 refine zay Lat (TV [.slice (some ⟨g1,0,none⟩) nb c1,.int .i64 (i:Int),.pointer (some ⟨g1,i,none⟩),.slice (some ⟨ga,0,none⟩) ma ac,.int .i64 (z:Int),.pointer (some ⟨ga,z*2,none⟩),.agg #[.int .i64 x,.int .u64 y],.int .i64 (i:Int),.agg #[.int .i64 x,.int .u64 y],.bool false,.bool false,.int .i64 (z:Int),.pointer (some ⟨v,0,none⟩),.pointer (some ⟨v,0,none⟩),.pointer (some ⟨v,8,none⟩),.slice (some ⟨g0,0,none⟩) nb c0,.int .i64 (i:Int),.pointer (some ⟨g0,i,none⟩),.slice (some ⟨gx,0,none⟩) m xc,.int .i64 (m:Int),.bool true,.bool true,.pointer (some ⟨v,0,none⟩),.pointer (some ⟨v,0,none⟩),.pointer (some ⟨v,8,none⟩),.slice (some ⟨g0,0,none⟩) nb c0,.int .i64 (i:Int),.pointer (some ⟨g0,i,none⟩),.slice (some ⟨gx,0,none⟩) m xc,.int .i64 (z:Int),.pointer (some ⟨gx,z*2,none⟩),.agg #[.int .i64 x,.int .u64 y],.int .i64 (i:Int),.agg #[.int .i64 x,.int .u64 y],.bool false,.bool false,.bool false]) (by kernel_rfl) (by kernel_rfl) (by kernel_rfl) (by rw [hsz];kernel_rfl) (by kernel_rfl) Lat.refl Lat.trans (TV.stable _) (Lat.draw w) ?hop ?hdone
 case hdone=>
  intro a w1 hL hS hT
  have k124:a.tmps.getD 124 undef=.bool false:=hT 36 _ rfl _ rfl
  have he:=zam hS
  have hQ2:=hQ (a.tmps.getD 88 undef) (a.tmps.getD 89 undef) (a.tmps.getD 90 undef) (a.tmps.getD 91 undef) (a.tmps.getD 92 undef) (a.tmps.getD 93 undef) (a.tmps.getD 94 undef) (a.tmps.getD 95 undef) (a.tmps.getD 96 undef) (a.tmps.getD 97 undef) (a.tmps.getD 98 undef) (a.tmps.getD 99 undef) (a.tmps.getD 100 undef) (a.tmps.getD 101 undef) (a.tmps.getD 102 undef) (a.tmps.getD 103 undef) (a.tmps.getD 104 undef) (a.tmps.getD 105 undef) (a.tmps.getD 106 undef) (a.tmps.getD 107 undef) (a.tmps.getD 108 undef) (a.tmps.getD 109 undef) (a.tmps.getD 110 undef) (a.tmps.getD 111 undef) (a.tmps.getD 112 undef) (a.tmps.getD 113 undef) (a.tmps.getD 114 undef) (a.tmps.getD 115 undef) (a.tmps.getD 116 undef) (a.tmps.getD 117 undef) (a.tmps.getD 118 undef) (a.tmps.getD 119 undef) (a.tmps.getD 120 undef) (a.tmps.getD 121 undef) (a.tmps.getD 122 undef) (a.tmps.getD 123 undef) w1 hL
  rw [←k124] at hQ2
  rw [he]
  exact hQ2
 case hop=>
  intro i o hi
  have hlt:i<37:=(Array.getElem?_eq_some_iff.1 hi).1
  rcases (show i=0∨i=1∨i=2∨i=3∨i=4∨i=5∨i=6∨i=7∨i=8∨i=9∨i=10∨i=11∨i=12∨i=13∨i=14∨i=15∨i=16∨i=17∨i=18∨i=19∨i=20∨i=21∨i=22∨i=23∨i=24∨i=25∨i=26∨i=27∨i=28∨i=29∨i=30∨i=31∨i=32∨i=33∨i=34∨i=35∨i=36 by omega) with rfl|rfl|rfl|rfl|rfl|rfl|rfl|rfl|rfl|rfl|rfl|rfl|rfl|rfl|rfl|rfl|rfl|rfl|rfl|rfl|rfl|rfl|rfl|rfl|rfl|rfl|rfl|rfl|rfl|rfl|rfl|rfl|rfl|rfl|rfl|rfl|rfl
  all_goals obtain rfl:=Option.some.inj hi
  all_goals clear hi hlt
  all_goals intro a w1 hL hS hD
  · exact zy rfl (by simp [execOp,Act.eval,zs hS s3,go_sem])
  · exact zy rfl (by simp [execOp,Act.eval,zs hS s11,go_sem])
  · exact zy rfl (by simp [execOp,Act.eval,zd hD 0 88,zd hD 1 89,hi,hi0,cof46,go_sem])
  · exact zy rfl (by simp [execOp,Act.eval,zd hD 2 90,cA w1 hL,go_sem])
  · exact zy rfl (by simp [execOp,Act.eval,zs hS s12,go_sem])
  · exact zy rfl (by simp [execOp,Act.eval,zd hD 3 91,zd hD 4 92,hz,hz0,cof53,go_sem])
  · exact zy rfl (by simp [execOp,Act.eval,zd hD 5 93,p0 w1 hL,p1 w1 hL,go_sem])
  · exact zy rfl (by simp [execOp,Act.eval,zs hS s11,go_sem])
  · have d7:=zd hD 7 95
    refine zat rfl ?_
    refine zbb (f:=33) (args:=#[.int .i64 (i:Int)]) (by simp [execOp,resolve,Act.eval,d7,go_sem]) ?_
    refine (hmk w1 hL).mono ?_
    rintro e w2 ⟨rfl,h2⟩
    exact ⟨_,rfl,h2,TV.mk rfl⟩
  · exact zy rfl (by simp [execOp,Act.eval,zd hD 6 94,zd hD 8 96,go_sem])
  · exact zy rfl (by simp [execOp,Act.eval,zd hD 9 97,go_sem])
  · exact zyg (zg hD 10 98) rfl (by simp [execOp,Act.eval,zs hS s12,go_sem])
  · exact zyg (zg hD 10 98) rfl (by simp [execOp,Act.eval,zs hS s0,go_sem])
  · exact zyg (zg hD 10 98) rfl (by simp [execOp,Act.eval,zd hD 12 100,go_sem])
  · exact zyg (zg hD 10 98) rfl (by simp [execOp,Act.eval,zd hD 13 101,go_sem])
  · exact zyg (zg hD 10 98) rfl (by simp [execOp,Act.eval,zd hD 14 102,cF w1 hL,go_sem])
  · exact zyg (zg hD 10 98) rfl (by simp [execOp,Act.eval,zs hS s11,go_sem])
  · exact zyg (zg hD 10 98) rfl (by simp [execOp,Act.eval,zd hD 15 103,zd hD 16 104,hi,hi0,cof46,go_sem])
  · exact zyg (zg hD 10 98) rfl (by simp [execOp,Act.eval,zd hD 17 105,cX w1 hL,go_sem])
  · exact zyg (zg hD 10 98) rfl (by simp [execOp,Act.eval,zd hD 18 106,go_sem])
  · exact zyg (zg hD 10 98) rfl (by simp [execOp,Act.eval,zd hD 11 99,zd hD 19 107,hzm,go_sem])
  · exact zyg (zg hD 10 98) rfl (by simp [execOp,Act.eval,zd hD 20 108,go_sem])
  · exact zyg (zg hD 21 109) rfl (by simp [execOp,Act.eval,zs hS s0,go_sem])
  · exact zyg (zg hD 21 109) rfl (by simp [execOp,Act.eval,zd hD 22 110,go_sem])
  · exact zyg (zg hD 21 109) rfl (by simp [execOp,Act.eval,zd hD 23 111,go_sem])
  · exact zyg (zg hD 21 109) rfl (by simp [execOp,Act.eval,zd hD 24 112,cF w1 hL,go_sem])
  · exact zyg (zg hD 21 109) rfl (by simp [execOp,Act.eval,zs hS s11,go_sem])
  · exact zyg (zg hD 21 109) rfl (by simp [execOp,Act.eval,zd hD 25 113,zd hD 26 114,hi,hi0,cof46,go_sem])
  · exact zyg (zg hD 21 109) rfl (by simp [execOp,Act.eval,zd hD 27 115,cX w1 hL,go_sem])
  · exact zyg (zg hD 21 109) rfl (by simp [execOp,Act.eval,zs hS s12,go_sem])
  · exact zyg (zg hD 21 109) rfl (by simp [execOp,Act.eval,zd hD 28 116,zd hD 29 117,hzm,hz0,cof53,go_sem])
  · exact zyg (zg hD 21 109) rfl (by simp [execOp,Act.eval,zd hD 30 118,x0 w1 hL,x1 w1 hL,go_sem])
  · exact zyg (zg hD 21 109) rfl (by simp [execOp,Act.eval,zs hS s11,go_sem])
  · have d21:=zg hD 21 109
    have d32:=zd hD 32 120
    refine zat (zas rfl rfl rfl d21) ?_
    refine zbb (f:=33) (args:=#[.int .i64 (i:Int)]) (by simp [execOp,resolve,Act.eval,d32,go_sem]) ?_
    refine (hmk w1 hL).mono ?_
    rintro e w2 ⟨rfl,h2⟩
    exact ⟨_,rfl,h2,TV.mk rfl⟩
  · exact zyg (zg hD 21 109) rfl (by simp [execOp,Act.eval,zd hD 31 119,zd hD 33 121,go_sem])
  · exact zyg (zg hD 10 98) rfl (by simp [execOp,Act.eval,zd hD 21 109,zd hD 34 122,go_sem])
  exact zy rfl (by simp [execOp,Act.eval,zd hD 10 98,zd hD 35 123,go_sem])
theorem lk_r27b (v g0 g1 ga nb c0 c1 ma ac m xc i z:Nat) (xa:Option Addr) (x y:Int) (w:World) (a0:Act) (Q:Exit→Act→World→Prop) (hsz:a0.tmps.size=177)
 (s0:a0.tmps.getD 0 undef=.pointer (some ⟨v,0,none⟩))
 (s3:a0.tmps.getD 3 undef=.slice (some ⟨g1,0,none⟩) nb c1)
 (s11:a0.tmps.getD 11 undef=.int .i64 (i:Int))
 (s12:a0.tmps.getD 12 undef=.int .i64 (z:Int))
 (hi:(i:Int)<(nb:Int)) (hi0:¬(i:Int)<0) (hz:(z:Int)<(ma:Int)) (hz0:¬(z:Int)<0) (cof46:Tryz.prog.cellsOf 46=1) (cof53:Tryz.prog.cellsOf 53=2)
 (cA:∀w1,Lat w w1→w1.cell? ⟨g1,i,none⟩=some (.slice (some ⟨ga,0,none⟩) ma ac))
 (p0:∀w1,Lat w w1→w1.cell? ⟨ga,z*2,none⟩=some (.int .i64 x)) (p1:∀w1,Lat w w1→w1.cell? ⟨ga,z*2+1,none⟩=some (.int .u64 y))
 (cF:∀w1,Lat w w1→w1.cell? ⟨v,8,none⟩=some (.slice (some ⟨g0,0,none⟩) nb c0))
 (hmk:∀w1,Lat w w1→Calls Tryz.prog 33 #[.int .i64 (i:Int)] w1 fun e w2=>e=.returned (.agg #[.int .i64 x,.int .u64 y])∧Lat w1 w2)
 (hzm:¬(z:Int)<(m:Int)) (cX:∀w1,Lat w w1→w1.cell? ⟨g0,i,none⟩=some (.slice xa m xc))
 (hQ:∀(v88 v89 v90 v91 v92 v93 v94 v95 v96 v97 v98 v99 v100 v101 v102 v103 v104 v105 v106 v107 v108 v109 v110 v111 v112 v113 v114 v115 v116 v117 v118 v119 v120 v121 v122 v123:Value) (w1:World),Lat w w1→Q .normal (((((((((((((((((((((((((((((((((((((a0.put (some 88) v88).put (some 89) v89).put (some 90) v90).put (some 91) v91).put (some 92) v92).put (some 93) v93).put (some 94) v94).put (some 95) v95).put (some 96) v96).put (some 97) v97).put (some 98) v98).put (some 99) v99).put (some 100) v100).put (some 101) v101).put (some 102) v102).put (some 103) v103).put (some 104) v104).put (some 105) v105).put (some 106) v106).put (some 107) v107).put (some 108) v108).put (some 109) v109).put (some 110) v110).put (some 111) v111).put (some 112) v112).put (some 113) v113).put (some 114) v114).put (some 115) v115).put (some 116) v116).put (some 117) v117).put (some 118) v118).put (some 119) v119).put (some 120) v120).put (some 121) v121).put (some 122) v122).put (some 123) v123).put (some 124) (.bool false)) w1):
 Code.wp Tryz.prog ((Tryz.f11.body.bind (zag 27)).getD .skip) Q a0 w:=by
 conv=>arg 2;whnf
 refine zay Lat (TV [.slice (some ⟨g1,0,none⟩) nb c1,.int .i64 (i:Int),.pointer (some ⟨g1,i,none⟩),.slice (some ⟨ga,0,none⟩) ma ac,.int .i64 (z:Int),.pointer (some ⟨ga,z*2,none⟩),.agg #[.int .i64 x,.int .u64 y],.int .i64 (i:Int),.agg #[.int .i64 x,.int .u64 y],.bool false,.bool false,.int .i64 (z:Int),.pointer (some ⟨v,0,none⟩),.pointer (some ⟨v,0,none⟩),.pointer (some ⟨v,8,none⟩),.slice (some ⟨g0,0,none⟩) nb c0,.int .i64 (i:Int),.pointer (some ⟨g0,i,none⟩),.slice xa m xc,.int .i64 (m:Int),.bool false,.bool false,undef,undef,undef,undef,undef,undef,undef,undef,undef,undef,undef,undef,undef,.bool false,.bool false]) (by kernel_rfl) (by kernel_rfl) (by kernel_rfl) (by rw [hsz];kernel_rfl) (by kernel_rfl) Lat.refl Lat.trans (TV.stable _) (Lat.draw w) ?hop ?hdone
 case hdone=>
  intro a w1 hL hS hT
  have k124:a.tmps.getD 124 undef=.bool false:=hT 36 _ rfl _ rfl
  have he:=zam hS
  have hQ2:=hQ (a.tmps.getD 88 undef) (a.tmps.getD 89 undef) (a.tmps.getD 90 undef) (a.tmps.getD 91 undef) (a.tmps.getD 92 undef) (a.tmps.getD 93 undef) (a.tmps.getD 94 undef) (a.tmps.getD 95 undef) (a.tmps.getD 96 undef) (a.tmps.getD 97 undef) (a.tmps.getD 98 undef) (a.tmps.getD 99 undef) (a.tmps.getD 100 undef) (a.tmps.getD 101 undef) (a.tmps.getD 102 undef) (a.tmps.getD 103 undef) (a.tmps.getD 104 undef) (a.tmps.getD 105 undef) (a.tmps.getD 106 undef) (a.tmps.getD 107 undef) (a.tmps.getD 108 undef) (a.tmps.getD 109 undef) (a.tmps.getD 110 undef) (a.tmps.getD 111 undef) (a.tmps.getD 112 undef) (a.tmps.getD 113 undef) (a.tmps.getD 114 undef) (a.tmps.getD 115 undef) (a.tmps.getD 116 undef) (a.tmps.getD 117 undef) (a.tmps.getD 118 undef) (a.tmps.getD 119 undef) (a.tmps.getD 120 undef) (a.tmps.getD 121 undef) (a.tmps.getD 122 undef) (a.tmps.getD 123 undef) w1 hL
  rw [←k124] at hQ2
  rw [he]
  exact hQ2
 case hop=>
  intro i o hi
  have hlt:i<37:=(Array.getElem?_eq_some_iff.1 hi).1
  rcases (show i=0∨i=1∨i=2∨i=3∨i=4∨i=5∨i=6∨i=7∨i=8∨i=9∨i=10∨i=11∨i=12∨i=13∨i=14∨i=15∨i=16∨i=17∨i=18∨i=19∨i=20∨i=21∨i=22∨i=23∨i=24∨i=25∨i=26∨i=27∨i=28∨i=29∨i=30∨i=31∨i=32∨i=33∨i=34∨i=35∨i=36 by omega) with rfl|rfl|rfl|rfl|rfl|rfl|rfl|rfl|rfl|rfl|rfl|rfl|rfl|rfl|rfl|rfl|rfl|rfl|rfl|rfl|rfl|rfl|rfl|rfl|rfl|rfl|rfl|rfl|rfl|rfl|rfl|rfl|rfl|rfl|rfl|rfl|rfl
  all_goals obtain rfl:=Option.some.inj hi
  all_goals clear hi hlt
  all_goals intro a w1 hL hS hD
  · exact zy rfl (by simp [execOp,Act.eval,zs hS s3,go_sem])
  · exact zy rfl (by simp [execOp,Act.eval,zs hS s11,go_sem])
  · exact zy rfl (by simp [execOp,Act.eval,zd hD 0 88,zd hD 1 89,hi,hi0,cof46,go_sem])
  · exact zy rfl (by simp [execOp,Act.eval,zd hD 2 90,cA w1 hL,go_sem])
  · exact zy rfl (by simp [execOp,Act.eval,zs hS s12,go_sem])
  · exact zy rfl (by simp [execOp,Act.eval,zd hD 3 91,zd hD 4 92,hz,hz0,cof53,go_sem])
  · exact zy rfl (by simp [execOp,Act.eval,zd hD 5 93,p0 w1 hL,p1 w1 hL,go_sem])
  · exact zy rfl (by simp [execOp,Act.eval,zs hS s11,go_sem])
  · have d7:=zd hD 7 95
    refine zat rfl ?_
    refine zbb (f:=33) (args:=#[.int .i64 (i:Int)]) (by simp [execOp,resolve,Act.eval,d7,go_sem]) ?_
    refine (hmk w1 hL).mono ?_
    rintro e w2 ⟨rfl,h2⟩
    exact ⟨_,rfl,h2,TV.mk rfl⟩
  · exact zy rfl (by simp [execOp,Act.eval,zd hD 6 94,zd hD 8 96,go_sem])
  · exact zy rfl (by simp [execOp,Act.eval,zd hD 9 97,go_sem])
  · exact zyg (zg hD 10 98) rfl (by simp [execOp,Act.eval,zs hS s12,go_sem])
  · exact zyg (zg hD 10 98) rfl (by simp [execOp,Act.eval,zs hS s0,go_sem])
  · exact zyg (zg hD 10 98) rfl (by simp [execOp,Act.eval,zd hD 12 100,go_sem])
  · exact zyg (zg hD 10 98) rfl (by simp [execOp,Act.eval,zd hD 13 101,go_sem])
  · exact zyg (zg hD 10 98) rfl (by simp [execOp,Act.eval,zd hD 14 102,cF w1 hL,go_sem])
  · exact zyg (zg hD 10 98) rfl (by simp [execOp,Act.eval,zs hS s11,go_sem])
  · exact zyg (zg hD 10 98) rfl (by simp [execOp,Act.eval,zd hD 15 103,zd hD 16 104,hi,hi0,cof46,go_sem])
  · exact zyg (zg hD 10 98) rfl (by simp [execOp,Act.eval,zd hD 17 105,cX w1 hL,go_sem])
  · exact zyg (zg hD 10 98) rfl (by simp [execOp,Act.eval,zd hD 18 106,go_sem])
  · exact zyg (zg hD 10 98) rfl (by simp [execOp,Act.eval,zd hD 11 99,zd hD 19 107,hzm,go_sem])
  · exact zyg (zg hD 10 98) rfl (by simp [execOp,Act.eval,zd hD 20 108,go_sem])
  · exact zn (zg hD 21 109)
  · exact zn (zg hD 21 109)
  · exact zn (zg hD 21 109)
  · exact zn (zg hD 21 109)
  · exact zn (zg hD 21 109)
  · exact zn (zg hD 21 109)
  · exact zn (zg hD 21 109)
  · exact zn (zg hD 21 109)
  · exact zn (zg hD 21 109)
  · exact zn (zg hD 21 109)
  · exact zn (zg hD 21 109)
  · exact zn (zg hD 21 109)
  · exact zn (zg hD 21 109)
  · exact zyg (zg hD 10 98) rfl (by simp [execOp,Act.eval,zd hD 21 109,zd hD 34 122,go_sem])
  exact zy rfl (by simp [execOp,Act.eval,zd hD 10 98,zd hD 35 123,go_sem])
theorem st_r4a (v ob k ln lc:Nat) (la:Option Addr) (o:ByteArray) (id:Int) (R:Value→World→Prop) (w:World) (a0:Act) (Q:Exit→Act→World→Prop) (hsz:a0.tmps.size=275)
 (s0:a0.tmps.getD 0 undef=.pointer (some ⟨v,0,none⟩))
 (s3:a0.tmps.getD 3 undef=.pointer (some ⟨ob,0,none⟩))
 (s5:a0.tmps.getD 5 undef=.int .i64 (k:Int))
 (hm:¬(600:Int)<(ln:Int)) (hq:(ln:Int)≤(lc:Int))
 (o2:∀w1,Lat w w1→w1.cell? ⟨ob,2,none⟩=some (.int .i64 id)) (o3:∀w1,Lat w w1→w1.cell? ⟨ob,3,none⟩=some (.string o)) (o4:∀w1,Lat w w1→w1.cell? ⟨ob,4,none⟩=some (.slice la ln lc))
 (hcall:∀w1,Lat w w1→Calls Tryz.prog 22 #[.pointer (some ⟨v,0,none⟩),.int .i64 (k:Int),.string o,.int .i64 id,.slice la ln lc] w1 fun e w2=>∃x,e=.returned x∧R x w2)
 (hQ:∀(v22 v23 v24 v25 v26 v27 v28 v29 v30 v31 v32 v33 v34 v35 v4:Value) (x:Value) (w2:World),R x w2→Q .normal (((((((((((((((((a0.put (some 22) v22).put (some 23) v23).put (some 24) v24).put (some 25) v25).put (some 26) v26).put (some 27) v27).put (some 28) v28).put (some 29) v29).put (some 30) v30).put (some 31) v31).put (some 32) v32).put (some 33) v33).put (some 34) v34).put (some 35) v35).put (some 4) v4).put (some 35) (x)).put (some 4) (x)) w2):
 Code.wp Tryz.prog ((Tryz.f10.body.bind (zag 4)).getD .skip) Q a0 w:=by
 conv=>arg 2;whnf
 refine zba 13 Lat (TE [Ent.val (.pointer (some ⟨v,0,none⟩)),Ent.val (.int .i64 (k:Int)),Ent.val (.pointer (some ⟨ob,3,none⟩)),Ent.val (.string o),Ent.val (.pointer (some ⟨ob,2,none⟩)),Ent.val (.int .i64 id),Ent.val (.pointer (some ⟨ob,4,none⟩)),Ent.val (.slice la ln lc),Ent.val (.pointer (some ⟨ob,4,none⟩)),Ent.val (.slice la ln lc),Ent.val (.int .i64 (ln:Int)),Ent.val (.int .i64 (ln:Int)),Ent.val (.slice la ln lc)]) (by kernel_rfl) (by kernel_rfl) (by kernel_rfl) (by rw [hsz];kernel_rfl) (by kernel_rfl) (by kernel_rfl) Lat.refl Lat.trans (za4 _) (Lat.draw w) ?hop ?hlast
 case hlast=>
  intro a w1 hL hS hT
  have k22:a.tmps.getD 22 undef=.pointer (some ⟨v,0,none⟩):=hT 0 _ (by omega) rfl
  have k23:a.tmps.getD 23 undef=.int .i64 (k:Int):=hT 1 _ (by omega) rfl
  have k25:a.tmps.getD 25 undef=.string o:=hT 3 _ (by omega) rfl
  have k27:a.tmps.getD 27 undef=.int .i64 id:=hT 5 _ (by omega) rfl
  have k34:a.tmps.getD 34 undef=.slice la ln lc:=hT 12 _ (by omega) rfl
  refine za6 13 _ rfl rfl (by kernel_rfl) ?_
  refine zaz (f:=22) (args:=#[.pointer (some ⟨v,0,none⟩),.int .i64 (k:Int),.string o,.int .i64 id,.slice la ln lc]) (by simp [execOp,resolve,Act.eval,k22,k23,k25,k27,k34,go_sem]) ?_
  refine (hcall w1 hL).mono ?_
  rintro e w2 ⟨x,rfl,hR⟩
  refine ⟨x,rfl,?_⟩
  show wpAny Tryz.prog .any _ Q _ _ (a.put (some 35) (x)) w2
  obtain ⟨fr1,hfr1⟩:∃y,a.put (some 35) (x)=y:=⟨_,rfl⟩
  rw [hfr1]
  have zfr1:fr1.tmps.size=275:=by rw [←hfr1,zbh];exact (hS.size.trans hsz)
  have c1_22:fr1.tmps.getD 22 undef=.pointer (some ⟨v,0,none⟩):=by rw [←hfr1];exact (zad _ 35 22 _ (by decide)).trans k22
  have c1_23:fr1.tmps.getD 23 undef=.int .i64 (k:Int):=by rw [←hfr1];exact (zad _ 35 23 _ (by decide)).trans k23
  have c1_25:fr1.tmps.getD 25 undef=.string o:=by rw [←hfr1];exact (zad _ 35 25 _ (by decide)).trans k25
  have c1_27:fr1.tmps.getD 27 undef=.int .i64 id:=by rw [←hfr1];exact (zad _ 35 27 _ (by decide)).trans k27
  have c1_34:fr1.tmps.getD 34 undef=.slice la ln lc:=by rw [←hfr1];exact (zad _ 35 34 _ (by decide)).trans k34
  have c1_35:fr1.tmps.getD 35 undef=x:=by rw [←hfr1];exact za7 _ 35 _ (by rw [(hS.size.trans hsz)];decide)
  refine za6 14 _ rfl rfl (by kernel_rfl) ?_
  refine za1 (x) (w':=w2) (by simp only [Array.getD_eq_getD_getElem?] at c1_35;simp [execOp,Act.eval,c1_35,go_sem]) ?_
  show wpAny Tryz.prog .any _ Q _ _ (fr1.put (some 4) (x)) w2
  obtain ⟨fr2,hfr2⟩:∃y,fr1.put (some 4) (x)=y:=⟨_,rfl⟩
  rw [hfr2]
  have zfr2:fr2.tmps.size=275:=by rw [←hfr2,zbh];exact zfr1
  have c2_22:fr2.tmps.getD 22 undef=.pointer (some ⟨v,0,none⟩):=by rw [←hfr2];exact (zad _ 4 22 _ (by decide)).trans c1_22
  have c2_23:fr2.tmps.getD 23 undef=.int .i64 (k:Int):=by rw [←hfr2];exact (zad _ 4 23 _ (by decide)).trans c1_23
  have c2_25:fr2.tmps.getD 25 undef=.string o:=by rw [←hfr2];exact (zad _ 4 25 _ (by decide)).trans c1_25
  have c2_27:fr2.tmps.getD 27 undef=.int .i64 id:=by rw [←hfr2];exact (zad _ 4 27 _ (by decide)).trans c1_27
  have c2_34:fr2.tmps.getD 34 undef=.slice la ln lc:=by rw [←hfr2];exact (zad _ 4 34 _ (by decide)).trans c1_34
  have c2_35:fr2.tmps.getD 35 undef=x:=by rw [←hfr2];exact (zad _ 4 35 _ (by decide)).trans c1_35
  have c2_4:fr2.tmps.getD 4 undef=x:=by rw [←hfr2];exact za7 _ 4 _ (by rw [zfr1];decide)
  refine zb2 (by kernel_rfl) ?_
  show Q .normal _ w2
  rw [←hfr2,←hfr1]
  rw [zam hS]
  exact hQ (a.tmps.getD 22 undef) (a.tmps.getD 23 undef) (a.tmps.getD 24 undef) (a.tmps.getD 25 undef) (a.tmps.getD 26 undef) (a.tmps.getD 27 undef) (a.tmps.getD 28 undef) (a.tmps.getD 29 undef) (a.tmps.getD 30 undef) (a.tmps.getD 31 undef) (a.tmps.getD 32 undef) (a.tmps.getD 33 undef) (a.tmps.getD 34 undef) (a.tmps.getD 35 undef) (a.tmps.getD 4 undef) x w2 hR
 case hop=>
  intro i o hlt hi
  rcases (show i=0∨i=1∨i=2∨i=3∨i=4∨i=5∨i=6∨i=7∨i=8∨i=9∨i=10∨i=11∨i=12 by omega) with rfl|rfl|rfl|rfl|rfl|rfl|rfl|rfl|rfl|rfl|rfl|rfl|rfl
  all_goals obtain rfl:=Option.some.inj hi
  all_goals clear hi hlt
  all_goals intro a w1 hL hS hD
  · exact zye rfl (by simp [execOp,Act.eval,zs hS s0,go_sem])
  · exact zye rfl (by simp [execOp,Act.eval,zs hS s5,go_sem])
  · exact zye rfl (by simp [execOp,Act.eval,zs hS s3,go_sem])
  · exact zye rfl (by simp [execOp,Act.eval,zde hD 2 24,o3 w1 hL,go_sem])
  · exact zye rfl (by simp [execOp,Act.eval,zs hS s3,go_sem])
  · exact zye rfl (by simp [execOp,Act.eval,zde hD 4 26,o2 w1 hL,go_sem])
  · exact zye rfl (by simp [execOp,Act.eval,zs hS s3,go_sem])
  · exact zye rfl (by simp [execOp,Act.eval,zde hD 6 28,o4 w1 hL,go_sem])
  · exact zye rfl (by simp [execOp,Act.eval,zs hS s3,go_sem])
  · exact zye rfl (by simp [execOp,Act.eval,zde hD 8 30,o4 w1 hL,go_sem])
  · exact zye rfl (by simp [execOp,Act.eval,zde hD 9 31,go_sem])
  · exact zye rfl (by simp [execOp,Act.eval,zde hD 10 32,hm,go_sem])
  exact zye rfl (by simp [execOp,Act.eval,zde hD 7 29,zde hD 11 33,hq,go_sem])
theorem st_r4b (v ob k ln lc:Nat) (la:Option Addr) (o:ByteArray) (id:Int) (R:Value→World→Prop) (w:World) (a0:Act) (Q:Exit→Act→World→Prop) (hsz:a0.tmps.size=275)
 (s0:a0.tmps.getD 0 undef=.pointer (some ⟨v,0,none⟩))
 (s3:a0.tmps.getD 3 undef=.pointer (some ⟨ob,0,none⟩))
 (s5:a0.tmps.getD 5 undef=.int .i64 (k:Int))
 (hm:(600:Int)<(ln:Int)) (hq:(600:Int)≤(lc:Int))
 (o2:∀w1,Lat w w1→w1.cell? ⟨ob,2,none⟩=some (.int .i64 id)) (o3:∀w1,Lat w w1→w1.cell? ⟨ob,3,none⟩=some (.string o)) (o4:∀w1,Lat w w1→w1.cell? ⟨ob,4,none⟩=some (.slice la ln lc))
 (hcall:∀w1,Lat w w1→Calls Tryz.prog 22 #[.pointer (some ⟨v,0,none⟩),.int .i64 (k:Int),.string o,.int .i64 id,.slice la 600 lc] w1 fun e w2=>∃x,e=.returned x∧R x w2)
 (hQ:∀(v22 v23 v24 v25 v26 v27 v28 v29 v30 v31 v32 v33 v34 v35 v4:Value) (x:Value) (w2:World),R x w2→Q .normal (((((((((((((((((a0.put (some 22) v22).put (some 23) v23).put (some 24) v24).put (some 25) v25).put (some 26) v26).put (some 27) v27).put (some 28) v28).put (some 29) v29).put (some 30) v30).put (some 31) v31).put (some 32) v32).put (some 33) v33).put (some 34) v34).put (some 35) v35).put (some 4) v4).put (some 35) (x)).put (some 4) (x)) w2):
 Code.wp Tryz.prog ((Tryz.f10.body.bind (zag 4)).getD .skip) Q a0 w:=by
 conv=>arg 2;whnf
 refine zba 13 Lat (TE [Ent.val (.pointer (some ⟨v,0,none⟩)),Ent.val (.int .i64 (k:Int)),Ent.val (.pointer (some ⟨ob,3,none⟩)),Ent.val (.string o),Ent.val (.pointer (some ⟨ob,2,none⟩)),Ent.val (.int .i64 id),Ent.val (.pointer (some ⟨ob,4,none⟩)),Ent.val (.slice la ln lc),Ent.val (.pointer (some ⟨ob,4,none⟩)),Ent.val (.slice la ln lc),Ent.val (.int .i64 (ln:Int)),Ent.val (.int .i64 600),Ent.val (.slice la 600 lc)]) (by kernel_rfl) (by kernel_rfl) (by kernel_rfl) (by rw [hsz];kernel_rfl) (by kernel_rfl) (by kernel_rfl) Lat.refl Lat.trans (za4 _) (Lat.draw w) ?hop ?hlast
 case hlast=>
  intro a w1 hL hS hT
  have k22:a.tmps.getD 22 undef=.pointer (some ⟨v,0,none⟩):=hT 0 _ (by omega) rfl
  have k23:a.tmps.getD 23 undef=.int .i64 (k:Int):=hT 1 _ (by omega) rfl
  have k25:a.tmps.getD 25 undef=.string o:=hT 3 _ (by omega) rfl
  have k27:a.tmps.getD 27 undef=.int .i64 id:=hT 5 _ (by omega) rfl
  have k34:a.tmps.getD 34 undef=.slice la 600 lc:=hT 12 _ (by omega) rfl
  refine za6 13 _ rfl rfl (by kernel_rfl) ?_
  refine zaz (f:=22) (args:=#[.pointer (some ⟨v,0,none⟩),.int .i64 (k:Int),.string o,.int .i64 id,.slice la 600 lc]) (by simp [execOp,resolve,Act.eval,k22,k23,k25,k27,k34,go_sem]) ?_
  refine (hcall w1 hL).mono ?_
  rintro e w2 ⟨x,rfl,hR⟩
  refine ⟨x,rfl,?_⟩
  show wpAny Tryz.prog .any _ Q _ _ (a.put (some 35) (x)) w2
  obtain ⟨fr1,hfr1⟩:∃y,a.put (some 35) (x)=y:=⟨_,rfl⟩
  rw [hfr1]
  have zfr1:fr1.tmps.size=275:=by rw [←hfr1,zbh];exact (hS.size.trans hsz)
  have c1_22:fr1.tmps.getD 22 undef=.pointer (some ⟨v,0,none⟩):=by rw [←hfr1];exact (zad _ 35 22 _ (by decide)).trans k22
  have c1_23:fr1.tmps.getD 23 undef=.int .i64 (k:Int):=by rw [←hfr1];exact (zad _ 35 23 _ (by decide)).trans k23
  have c1_25:fr1.tmps.getD 25 undef=.string o:=by rw [←hfr1];exact (zad _ 35 25 _ (by decide)).trans k25
  have c1_27:fr1.tmps.getD 27 undef=.int .i64 id:=by rw [←hfr1];exact (zad _ 35 27 _ (by decide)).trans k27
  have c1_34:fr1.tmps.getD 34 undef=.slice la 600 lc:=by rw [←hfr1];exact (zad _ 35 34 _ (by decide)).trans k34
  have c1_35:fr1.tmps.getD 35 undef=x:=by rw [←hfr1];exact za7 _ 35 _ (by rw [(hS.size.trans hsz)];decide)
  refine za6 14 _ rfl rfl (by kernel_rfl) ?_
  refine za1 (x) (w':=w2) (by simp only [Array.getD_eq_getD_getElem?] at c1_35;simp [execOp,Act.eval,c1_35,go_sem]) ?_
  show wpAny Tryz.prog .any _ Q _ _ (fr1.put (some 4) (x)) w2
  obtain ⟨fr2,hfr2⟩:∃y,fr1.put (some 4) (x)=y:=⟨_,rfl⟩
  rw [hfr2]
  have zfr2:fr2.tmps.size=275:=by rw [←hfr2,zbh];exact zfr1
  have c2_22:fr2.tmps.getD 22 undef=.pointer (some ⟨v,0,none⟩):=by rw [←hfr2];exact (zad _ 4 22 _ (by decide)).trans c1_22
  have c2_23:fr2.tmps.getD 23 undef=.int .i64 (k:Int):=by rw [←hfr2];exact (zad _ 4 23 _ (by decide)).trans c1_23
  have c2_25:fr2.tmps.getD 25 undef=.string o:=by rw [←hfr2];exact (zad _ 4 25 _ (by decide)).trans c1_25
  have c2_27:fr2.tmps.getD 27 undef=.int .i64 id:=by rw [←hfr2];exact (zad _ 4 27 _ (by decide)).trans c1_27
  have c2_34:fr2.tmps.getD 34 undef=.slice la 600 lc:=by rw [←hfr2];exact (zad _ 4 34 _ (by decide)).trans c1_34
  have c2_35:fr2.tmps.getD 35 undef=x:=by rw [←hfr2];exact (zad _ 4 35 _ (by decide)).trans c1_35
  have c2_4:fr2.tmps.getD 4 undef=x:=by rw [←hfr2];exact za7 _ 4 _ (by rw [zfr1];decide)
  refine zb2 (by kernel_rfl) ?_
  show Q .normal _ w2
  rw [←hfr2,←hfr1]
  rw [zam hS]
  exact hQ (a.tmps.getD 22 undef) (a.tmps.getD 23 undef) (a.tmps.getD 24 undef) (a.tmps.getD 25 undef) (a.tmps.getD 26 undef) (a.tmps.getD 27 undef) (a.tmps.getD 28 undef) (a.tmps.getD 29 undef) (a.tmps.getD 30 undef) (a.tmps.getD 31 undef) (a.tmps.getD 32 undef) (a.tmps.getD 33 undef) (a.tmps.getD 34 undef) (a.tmps.getD 35 undef) (a.tmps.getD 4 undef) x w2 hR
 case hop=>
  intro i o hlt hi
  rcases (show i=0∨i=1∨i=2∨i=3∨i=4∨i=5∨i=6∨i=7∨i=8∨i=9∨i=10∨i=11∨i=12 by omega) with rfl|rfl|rfl|rfl|rfl|rfl|rfl|rfl|rfl|rfl|rfl|rfl|rfl
  all_goals obtain rfl:=Option.some.inj hi
  all_goals clear hi hlt
  all_goals intro a w1 hL hS hD
  · exact zye rfl (by simp [execOp,Act.eval,zs hS s0,go_sem])
  · exact zye rfl (by simp [execOp,Act.eval,zs hS s5,go_sem])
  · exact zye rfl (by simp [execOp,Act.eval,zs hS s3,go_sem])
  · exact zye rfl (by simp [execOp,Act.eval,zde hD 2 24,o3 w1 hL,go_sem])
  · exact zye rfl (by simp [execOp,Act.eval,zs hS s3,go_sem])
  · exact zye rfl (by simp [execOp,Act.eval,zde hD 4 26,o2 w1 hL,go_sem])
  · exact zye rfl (by simp [execOp,Act.eval,zs hS s3,go_sem])
  · exact zye rfl (by simp [execOp,Act.eval,zde hD 6 28,o4 w1 hL,go_sem])
  · exact zye rfl (by simp [execOp,Act.eval,zs hS s3,go_sem])
  · exact zye rfl (by simp [execOp,Act.eval,zde hD 8 30,o4 w1 hL,go_sem])
  · exact zye rfl (by simp [execOp,Act.eval,zde hD 9 31,go_sem])
  · exact zye rfl (by simp [execOp,Act.eval,zde hD 10 32,hm,go_sem])
  exact zye rfl (by simp [execOp,Act.eval,zde hD 7 29,zde hD 11 33,hq,go_sem])
end Go.Proofs.YtlppibigceeimaaGreatDoor
