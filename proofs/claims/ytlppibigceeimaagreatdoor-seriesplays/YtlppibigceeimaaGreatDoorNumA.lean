import Derived.Test.YtlppibigceeimaaGreatDoorMath
import Derived.Test.YtlppibigceeimaaGreatDoorLen
import Derived.Laws.BitsAllLaws
set_option linter.unusedSimpArgs false
set_option linter.unusedVariables false
set_option maxHeartbeats 40000000
set_option maxRecDepth 100000
namespace Go.Proofs.YtlppibigceeimaaGreatDoor.Q
open Go.RowKit
theorem or_one (n:Nat):n ||| 1=n+(1 - n%2):=by
 rcases (by omega:n%2=0∨n%2=1) with h|h
 · rw [nat_join 1 n 1 (by simpa using h) (by decide)];omega
 have e:=nat_join 1 (n - 1) 1 (by simp;omega) (by decide)
 have e1:n=(n - 1) ||| 1:=by rw [e];omega
 have:n ||| 1=n:=by
  rw [e1,Nat.or_assoc];simp
 omega
theorem grp_of_len (n r:Nat) (h1:n<18446744073709551616) (h:IsLen (n ||| 1) r):(r+6) / 7=grp n+1∧1≤r∧r≤64:=by
 obtain ⟨a,b,c⟩:=h
 rw [or_one] at a b
 obtain ⟨b1,b2⟩:=b (by omega)
 obtain ⟨k,hk⟩:∃k,k=(r - 1) / 7:=⟨_,rfl⟩
 have hlo:128 ^ k≤n+(1 - n%2):=by
  rw [zft]
  exact Nat.le_trans (Nat.pow_le_pow_right (by omega) (by omega)) b2
 have hhi:n+(1 - n%2)<128 ^ (k+1):=by
  rw [zft]
  exact Nat.lt_of_lt_of_le a (Nat.pow_le_pow_right (by omega) (by omega))
 have hg:grp n=k:=by
  refine grpF_is 9 k n (by omega) ?_ (by omega)
  rcases Nat.eq_zero_or_pos k with h0|h0
  · exact .inl h0
  right
  obtain ⟨j,rfl⟩:∃j,k=j+1:=⟨k - 1,by omega⟩
  rw [Nat.pow_succ] at hlo ⊢
  omega
 rw [hg]
 exact ⟨by omega,b1,c⟩
theorem zd6 (n:Int) (w:World) (h0:0≤n) (h1:n≤18446744073709551615):
 Calls Tryz.prog 150 #[.int .u64 n] w fun e w'=>e=.returned (.int .i64 ((grp n.toNat:Int)+1))∧w'=w:=by
 have hor:bits .or .u64 n 1=((n.toNat ||| 1:Nat):Int):=u64_or n 1 h0 (by omega) (by decide) (by decide)
 have hb:n.toNat ||| 1<2 ^ 64:=Nat.or_lt_two_pow (by omega) (by decide)
 go_enter Tryz.func150,Tryz.ntmps150
 go_wp2_with fail
 refine (len64_any _ _ (by omega) (by omega)).mono ?_
 rintro e w' ⟨⟨r,rfl,hr⟩,rfl⟩
 rw [Int.toNat_natCast] at hr
 obtain ⟨q1,q2,q3⟩:=grp_of_len _ _ (by omega) hr
 clear hor hb hr
 go_wp2
 go_ret
 refine ⟨congrArg Ending.returned (congrArg (Value.int IntKind.i64) ?_),rfl⟩
 omega
end Go.Proofs.YtlppibigceeimaaGreatDoor.Q
