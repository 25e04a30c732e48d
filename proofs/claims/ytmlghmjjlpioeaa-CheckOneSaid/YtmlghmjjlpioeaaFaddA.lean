/-
  FaddBits, FaddA
-/
import Derived.Test.YtmlghmjjlpioeaaKit
import Derived.Test.YtmlghmjjlpioeaaFmC
import Derived.Deep.LoopGhost
set_option maxRecDepth 1000000
set_option maxHeartbeats 16000000
namespace Go.Proofs.Ytmlghmjjlpioeaa
open Go.RowKit
open Lib (hid)
theorem u64_toNat (n:Nat)(h:n<2^64):(BitVec.ofInt 64 (n:Int)).toNat=n:=by
 have:=toNat_ofInt64 n
 omega
theorem and64 (a b:Nat)(ha:a<2^64)(hb:b<2^64):bits .and .u64 (a:Int) (b:Int)=((a &&& b:Nat):Int):=by
 show IntKind.u64.wrap ((BitVec.ofInt 64 (a:Int) &&& BitVec.ofInt 64 (b:Int)).toNat:Int)=_
 rw[BitVec.toNat_and,u64_toNat a ha,u64_toNat b hb,IntKind.wrap_u64]
 have:a &&& b<2^64:=Nat.and_lt_two_pow _ hb
 omega
theorem not_sign (a:Nat)(ha:a<2^64):bits .andNot .u64 (a:Int) 9223372036854775808=((Fm.sz a:Nat):Int):=by
 show IntKind.u64.wrap ((BitVec.ofInt 64 (a:Int) &&& ~~~ (BitVec.ofInt 64 9223372036854775808)).toNat:Int)=_
 rw[BitVec.toNat_and,u64_toNat a ha,show (~~~ (BitVec.ofInt 64 9223372036854775808)).toNat=2^63 - 1 from by decide,Nat.and_two_pow_sub_one_eq_mod,IntKind.wrap_u64]
 unfold Fm.sz
 omega
theorem and_high (a:Nat)(ha:a<2^64):a &&& 2^63=Fm.sg a * 2^63:=by
 unfold Fm.sg
 have e1:(a &&& 2^63) % 2^63=0:=by rw[Nat.and_mod_two_pow];simp
 have e2:(a &&& 2^63) / 2^63=a / 2^63 &&& 1:=by rw[Nat.and_div_two_pow]
 have h1:=Nat.div_add_mod (a &&& 2^63) (2^63)
 rw[e1,e2,Nat.and_one_is_mod] at h1
 have:a / 2^63<2:=by omega
 omega
theorem sign_of (a:Nat)(ha:a<2^64):bits .and .u64 (a:Int) 9223372036854775808=((Fm.sg a * 2^63:Nat):Int):=by
 rw[show (9223372036854775808:Int)=((2^63:Nat):Int) by decide,and64 a _ ha (by decide),and_high a ha]
open Go.RowKit
theorem tuple_eq {a b c d:Value}(h:a=c)(h2:b=d):Ending.returned (.tuple #[a,b])=Ending.returned (.tuple #[c,d]):=by rw[h,h2]
theorem int_eq {k:IntKind}{a b:Int}(h:a=b):Value.int k a = .int k b:=by rw[h]
theorem class_any (a:Nat)(w:World)(ha:a<2^64) :
  Calls Try.prog 41 #[.int .u64 a] w fun e w'=>e = .returned (.int .i64 (Fm.cls a:Nat))∧w=w':=by
 have e1:=not_sign a ha
 have hi:Fm.inf=9218868437227405312:=by decide
 have HC:=hid (show Fm.cls a=if 9218868437227405312<Fm.sz a then 4 else if Fm.sz a=9218868437227405312 then 3 else if 4503599627370496≤Fm.sz a then 2 else if 0<Fm.sz a then 1 else 0 by unfold Fm.cls;rw[hi])
 clear hi
 generalize Fm.cls a=c at HC ⊢
 generalize Fm.sz a=s at e1 HC
 have h1:decide ((s:Int)>9218868437227405312)=decide (9218868437227405312<s):=by rw[decide_eq_decide];omega
 have h2:((s:Int) == 9218868437227405312)=decide (s=9218868437227405312):=by rw[Bool.eq_iff_iff];simp;omega
 have h3:decide ((s:Int) ≥ 4503599627370496)=decide (4503599627370496≤s):=by rw[decide_eq_decide];omega
 go_enter Try.func41,Try.ntmps41
 go_wp2
 all_goals go_ret
 all_goals (refine ⟨ret_int ?_,rfl⟩;rw[HC.out];repeat' split)
 all_goals first|omega|rfl
end Go.Proofs.Ytmlghmjjlpioeaa
