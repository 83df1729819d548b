import Derived.Test.YtlppibigceeimaaGreatDoorWrC
import Derived.Test.YtlppibigceeimaaGreatDoorChA
set_option linter.unusedSimpArgs false
set_option linter.unusedVariables false
set_option maxHeartbeats 40000000
set_option maxRecDepth 100000
namespace Go.Proofs.YtlppibigceeimaaGreatDoor
open Go.RowKit
theorem w64 (x:Int):wrap64 x=wr x:=by
 unfold wrap64 wr
 first|rfl|(simp;omega)|omega
theorem u64w (x:Int):IntKind.u64.wrap x=x%18446744073709551616:=by
 first|rfl|(simp [IntKind.wrap,IntKind.signed,IntKind.bits];done)|(unfold IntKind.wrap;simp [IntKind.signed,IntKind.bits])
theorem signedP (v w:Nat) (w0:World) (hv:v<18446744073709551616) (hw:w=0∨w=7∨w=9∨w=12∨w=64):
 Calls Tryz.prog 161 #[.int .u64 (v:Int),.int .i64 (w:Int)] w0 fun e w'=>e=.returned (.int .i64 (sg v w))∧w'=w0:=by
 rcases hw with rfl|rfl|rfl|rfl|rfl
 all_goals
  go_enter Tryz.func161,Tryz.ntmps161
  go_wp2
  go_ret
  refine ⟨?_,by first|trivial|rfl⟩
 · exact congrArg (fun z=>Ending.returned (.int .i64 z)) (by unfold sg;rw [w64,u64w];simp)
 · exact congrArg (fun z=>Ending.returned (.int .i64 z)) (by unfold sg;rw [w64,u64w];simp)
 · exact congrArg (fun z=>Ending.returned (.int .i64 z)) (by unfold sg;rw [w64,u64w];simp)
 · exact congrArg (fun z=>Ending.returned (.int .i64 z)) (by unfold sg;rw [w64,u64w];simp)
 exact congrArg (fun z=>Ending.returned (.int .i64 z)) (by unfold sg;rw [w64];simp;unfold wr;omega)
theorem sg_fit (d:Int) (w:Nat) (hd:I64 d) (hw:w=0∨w=7∨w=9∨w=12):(sg (un d) w=d)↔fit d w:=by
 unfold I64 at hd
 rcases hw with rfl|rfl|rfl|rfl
 · simp [sg,fit,un,wr];omega
 · simp [sg,fit,un,wr];omega
 · simp [sg,fit,un,wr];omega
 simp [sg,fit,un,wr];omega
theorem fitsP (d:Int) (w:Nat) (w0:World) (hd:I64 d) (hw:w=0∨w=7∨w=9∨w=12):
 Calls Tryz.prog 146 #[.int .i64 d,.int .i64 (w:Int)] w0 fun e w'=>e=.returned (.bool (decide (fit d w)))∧w'=w0:=by
 have hi:=sg_fit d w hd hw
 have hu:IntKind.u64.wrap d=(un d:Int):=by rw [u64w];unfold un;omega
 have hlt:=un_lt d
 go_enter Tryz.func146,Tryz.ntmps146
 go_wp2_with fail
 refine (signedP (un d) w w0 hlt (by omega)).mono ?_
 rintro e w' ⟨rfl,rfl⟩
 by_cases h:fit d w
 · have e1:=hi.2 h
   have H:=zaa h
   rw [e1]
   clear hi h e1
   go_wp2
   go_ret
   simp [H.out]
 have e1:¬sg (un d) w=d:=fun e=>h (hi.1 e)
 have H:=zaa h
 generalize sg (un d) w=z at*
 clear hi h
 have E:=zaa e1
 go_wp2
 go_ret
 simp [H.out,E.out]
end Go.Proofs.YtlppibigceeimaaGreatDoor
