/-
  Doubles compared: Less of two that are not NaN.
-/
import Derived.Test.YtmlghmjjlpioeaaFaddAdd
set_option maxRecDepth 1000000
set_option maxHeartbeats 16000000
namespace Go.Proofs.Ytmlghmjjlpioeaa
open Go.RowKit
open Lib (hid)
theorem cls_zero_iff {a:Nat}:Fm.cls a=0↔Fm.sz a=0:=by
 have hi:Fm.inf=2047*2^52:=rfl
 unfold Fm.cls
 repeat' split
 all_goals omega
theorem number_zero (a:Nat)(w:World)(ha:a<2^64){c:Int}(C:Hid (c=(Fm.cls a:Nat)))(h4:(c == 4)=false)(h0:(c == 0)=true) :
  Calls Try.prog 59 #[.int .u64 a] w fun x w'=>x = .returned (.tuple #[.int .i64 0,.bool true])∧w=w':=by
 go_enter Try.func59,Try.ntmps59
 go_wp2_with fail
 refine (class_is a _ ha C).mono ?_;rintro e w' ⟨rfl,rfl⟩
 go_wp2_with fail
 go_ret2
 exact ⟨rfl,rfl⟩
theorem number_plus (a s:Nat) (w:World) (ha:a<2^64) {c:Int} (C:Hid (c=(Fm.cls a:Nat))) (h4:(c == 4)=false) (h0:(c == 0)=false)
  (e1:bits .andNot .u64 (a:Int) 9223372036854775808=(s:Int)) (hs:s<9223372036854775808) (e2:(bits .and .u64 (a:Int) 9223372036854775808 != 0)=false) :
  Calls Try.prog 59 #[.int .u64 a] w fun x w'=>x = .returned (.tuple #[.int .i64 s,.bool true])∧w=w':=by
 go_enter Try.func59,Try.ntmps59
 go_wp2_with fail
 refine (class_is a _ ha C).mono ?_;rintro e w' ⟨rfl,rfl⟩
 go_wp2_with fail
 go_ret2
 refine ⟨tuple_eq (int_eq ?_) rfl,rfl⟩
 first|rfl|(rw[wrap64_id (by omega) (by omega)])
theorem number_minus (a s:Nat) (w:World) (ha:a<2^64) {c:Int} (C:Hid (c=(Fm.cls a:Nat))) (h4:(c == 4)=false) (h0:(c == 0)=false)
  (e1:bits .andNot .u64 (a:Int) 9223372036854775808=(s:Int)) (hs:s<9223372036854775808) (e2:(bits .and .u64 (a:Int) 9223372036854775808 != 0)=true) :
  Calls Try.prog 59 #[.int .u64 a] w fun x w'=>x = .returned (.tuple #[.int .i64 (-(s:Int)),.bool true])∧w=w':=by
 go_enter Try.func59,Try.ntmps59
 go_wp2_with fail
 refine (class_is a _ ha C).mono ?_;rintro e w' ⟨rfl,rfl⟩
 go_wp2_with fail
 go_ret2
 refine ⟨tuple_eq (int_eq ?_) rfl,rfl⟩
 first|rfl|(rw[wrap64_id (by omega) (by omega)])
theorem number_at (a:Nat)(v:Int)(w:World)(ha:a<2^64)(hc:Hid (Fm.cls a≠4))(hv:Hid (Fm.num a=v)) :
  Calls Try.prog 59 #[.int .u64 a] w fun x w'=>x = .returned (.tuple #[.int .i64 v,.bool true])∧w=w':=by
 have yes:∀ {x k:Nat},x=k→(((x:Nat):Int) == ((k:Nat):Int))=true:=fun h=>by rw[h];simp
 have no:∀ {x k:Nat},x≠k→(((x:Nat):Int) == ((k:Nat):Int))=false:=fun h=>by simp;omega
 have C:Hid (((Fm.cls a:Nat):Int)=(Fm.cls a:Nat)):=hid rfl
 have h4:=no hc.out
 rw[←hv.out]
 by_cases h0:Fm.cls a=0
 ·have hz:=cls_zero_iff.1 h0
  have hn:Fm.num a=0:=by unfold Fm.num;rw[hz];split<;>rfl
  rw[hn]
  exact number_zero a w ha C h4 (yes h0)
 ·have S:=sign_of a ha
  rcases Fm.sg_lt ha with hs|hs
  ·rw[Fm.num_of (by omega)]
   exact number_plus a _ w ha C h4 (no h0) (not_sign a ha) (Fm.sz_lt a) (by rw[S,hs];rfl)
  ·rw[Fm.num_of1 hs]
   exact number_minus a _ w ha C h4 (no h0) (not_sign a ha) (Fm.sz_lt a) (by rw[S,hs];rfl)
end Go.Proofs.Ytmlghmjjlpioeaa
