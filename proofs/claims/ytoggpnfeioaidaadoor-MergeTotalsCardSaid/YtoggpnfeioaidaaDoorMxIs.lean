/-
  FaddA, MxIs
-/
import Derived.Test.YtoggpnfeioaidaaDoorKit
import Derived.Test.YtoggpnfeioaidaaDoorFmC
import Derived.Deep.LoopGhost
import Derived.Test.YtoggpnfeioaidaaDoorErrAs
import Derived.Test.YtoggpnfeioaidaaDoorErrNew
import Derived.Lib.IfaceEq
import Derived.LaidEql
set_option maxRecDepth 1000000
set_option maxHeartbeats 16000000
namespace Go.Proofs.YtoggpnfeioaidaaDoor
open Go.RowKit
theorem u64_toNat (n:Nat) (h:n<2^64):(BitVec.ofInt 64 (n:Int)).toNat=n:=by
 have:=toNat_ofInt64 n
 omega
theorem and64 (a b:Nat) (ha:a<2^64) (hb:b<2^64):bits .and .u64 (a:Int) (b:Int)=((a &&& b:Nat):Int):=by
 show IntKind.u64.wrap ((BitVec.ofInt 64 (a:Int) &&& BitVec.ofInt 64 (b:Int)).toNat:Int)=_
 rw[BitVec.toNat_and,u64_toNat a ha,u64_toNat b hb,IntKind.wrap_u64]
 have:a &&& b<2^64:=Nat.and_lt_two_pow _ hb
 omega
theorem or64 (a b:Nat) (ha:a<2^64) (hb:b<2^64):bits .or .u64 (a:Int) (b:Int)=((a ||| b:Nat):Int):=by
 show IntKind.u64.wrap ((BitVec.ofInt 64 (a:Int) ||| BitVec.ofInt 64 (b:Int)).toNat:Int)=_
 rw[BitVec.toNat_or,u64_toNat a ha,u64_toNat b hb,IntKind.wrap_u64]
 have:a ||| b<2^64:=Nat.or_lt_two_pow ha hb
 omega
theorem mask64 (a k:Nat) (ha:a<2^64) (hk:k≤64) {M:Int} (hM:M=((2^k - 1:Nat):Int)):bits .and .u64 (a:Int) M=((a % 2^k:Nat):Int):=by
 have:2^k≤2^64:=Nat.pow_le_pow_right (by decide) hk
 have:0<2^k:=Nat.two_pow_pos k
 rw[hM,and64 a (2^k-1) ha (by omega),Nat.and_two_pow_sub_one_eq_mod]
theorem not_sign (a:Nat) (ha:a<2^64):bits .andNot .u64 (a:Int) 9223372036854775808=((Fm.sz a:Nat):Int):=by
 show IntKind.u64.wrap ((BitVec.ofInt 64 (a:Int) &&& ~~~ (BitVec.ofInt 64 9223372036854775808)).toNat:Int)=_
 rw[BitVec.toNat_and,u64_toNat a ha,show (~~~ (BitVec.ofInt 64 9223372036854775808)).toNat=2^63 - 1 from by decide,Nat.and_two_pow_sub_one_eq_mod,IntKind.wrap_u64]
 unfold Fm.sz
 omega
theorem and_high (a:Nat) (ha:a<2^64):a &&& 2^63=Fm.sg a * 2^63:=by
 unfold Fm.sg
 have e1:(a &&& 2^63) % 2^63=0:=by rw[Nat.and_mod_two_pow];simp
 have e2:(a &&& 2^63) / 2^63=a / 2^63 &&& 1:=by rw[Nat.and_div_two_pow]
 have h1:=Nat.div_add_mod (a &&& 2^63) (2^63)
 rw[e1,e2,Nat.and_one_is_mod] at h1
 have:a / 2^63<2:=by omega
 omega
theorem sign_of (a:Nat) (ha:a<2^64):bits .and .u64 (a:Int) 9223372036854775808=((Fm.sg a * 2^63:Nat):Int):=by
 rw[show (9223372036854775808:Int)=((2^63:Nat):Int) by decide,and64 a _ ha (by decide),and_high a ha]
theorem join64 (x y k:Nat) (hx:x % 2^k=0) (hy:y<2^k) (hl:x+y<2^64):bits .or .u64 (x:Int) (y:Int)=((x+y:Nat):Int):=by
 rw[or64 x y (by omega) (by omega),nat_join k x y hx hy]
theorem set_bit (a k:Nat) (ha:a<2^64) (hk:k<64) {M:Int} (hM:M=((2^k:Nat):Int)):bits .or .u64 (a:Int) M=((if a / 2^k % 2=1 then a else a+2^k:Nat):Int):=by
 have h2:2^k<2^64:=Nat.pow_lt_pow_right (by decide) hk
 rw[hM,or64 a _ ha h2]
 congr 1
 have e1:(a ||| 2^k) % 2^k=a % 2^k:=by rw[Nat.or_mod_two_pow];simp
 have e2:(a ||| 2^k) / 2^k=a / 2^k ||| 1:=by rw[Nat.or_div_two_pow,Nat.div_self (Nat.two_pow_pos k)]
 have e3:a / 2^k ||| 1=if a / 2^k % 2=1 then a / 2^k else a / 2^k+1:=by
  generalize a / 2^k=q
  have e4:=nat_join 1 (q / 2 * 2) 1 (by simp) (by decide)
  split
  ·rename_i h
   have:q=q / 2 * 2+1:=by omega
   rw[this,←e4,Nat.or_assoc,Nat.or_self]
  ·rename_i h
   have:q=q / 2 * 2:=by omega
   rw[this,e4]
 have h1:=Nat.div_add_mod (a ||| 2^k) (2^k)
 have h3:=Nat.div_add_mod a (2^k)
 rw[e1,e2,e3] at h1
 split at h1
 ·rename_i h;rw[if_pos h];omega
 ·rename_i h;rw[if_neg h,←h1,Nat.mul_add];omega
theorem quiet_of (a:Nat) (ha:a<2^64):bits .or .u64 (a:Int) 2251799813685248=((Fm.quiet a:Nat):Int):=set_bit a 51 ha (by decide) (by decide)
open Go.RowKit
theorem stk_min (m d:Nat) (hm:m<2^64):Fm.stk m d=if m % 2^(min d 64)=0 then m / 2^(min d 64) else m / 2^(min d 64) / 2 * 2+1:=by
 rcases Nat.le_total d 64 with h|h
 ·rw[Nat.min_eq_left h];rfl
 ·have h1:m<2^d:=Nat.lt_of_lt_of_le hm (Nat.pow_le_pow_right (by decide) h)
  rw[Nat.min_eq_right h]
  unfold Fm.stk
  rw[Nat.mod_eq_of_lt h1,Nat.div_eq_of_lt h1,Nat.mod_eq_of_lt hm,Nat.div_eq_of_lt hm]
theorem wrap_mask (D:Nat) (h:D≤64):IntKind.u64.wrap (IntKind.u64.wrap (2 ^ D) - 1)=((2^D - 1:Nat):Int):=by
 have h0:0<2^D:=Nat.two_pow_pos D
 have h1:2^D≤2^64:=Nat.pow_le_pow_right (by decide) h
 have e:((2:Int) ^ D)=((2^D:Nat):Int):=by simp
 rw[e,IntKind.wrap_u64,IntKind.wrap_u64]
 generalize 2^D=P at *
 omega
theorem or_one (q:Nat) (hq:q<2^64):bits .or .u64 (q:Int) 1=((q / 2 * 2+1:Nat):Int):=by
 have h:=set_bit q 0 hq (by decide) (M:=1) rfl
 rw[h]
 simp
 split<;>omega
theorem tuple_eq {a b:Value} {c d:Value} (h:a=c) (h2:b=d):Ending.returned (.tuple #[a,b])=Ending.returned (.tuple #[c,d]):=by rw[h,h2]
theorem int_eq {k:IntKind} {a b:Int} (h:a=b):Value.int k a = .int k b:=by rw[h]
theorem class_any (a:Nat) (w:World) (ha:a<2^64) :
  Calls Tryd.prog 44 #[.int .u64 a] w fun e w'=>e = .returned (.int .i64 (Fm.cls a:Nat))∧w=w':=by
 have e1:=not_sign a ha
 have hi:Fm.inf=9218868437227405312:=by decide
 have HC:=Lib.hid (show Fm.cls a=if 9218868437227405312<Fm.sz a then 4 else if Fm.sz a=9218868437227405312 then 3 else if 4503599627370496≤Fm.sz a then 2 else if 0<Fm.sz a then 1 else 0 by unfold Fm.cls;rw[hi])
 clear hi
 generalize Fm.cls a=c at HC ⊢
 generalize Fm.sz a=s at e1 HC
 have h1:decide ((s:Int)>9218868437227405312)=decide (9218868437227405312<s):=by rw[decide_eq_decide];omega
 have h2:((s:Int) == 9218868437227405312)=decide (s=9218868437227405312):=by rw[Bool.eq_iff_iff];simp;omega
 have h3:decide ((s:Int) ≥ 4503599627370496)=decide (4503599627370496≤s):=by rw[decide_eq_decide];omega
 go_enter Tryd.func44,Tryd.ntmps44
 go_wp2
 all_goals go_ret
 all_goals (refine ⟨ret_int ?_,rfl⟩;rw[HC.out];repeat' split)
 all_goals first|omega|rfl
theorem quiet_any (a:Nat) (w:World) (ha:a<2^64) :
  Calls Tryd.prog 45 #[.int .u64 a] w fun e w'=>e = .returned (.int .u64 (Fm.quiet a:Nat))∧w=w':=by
 have e1:=quiet_of a ha
 go_enter Tryd.func45,Tryd.ntmps45
 go_wp2
 go_ret
 exact ⟨rfl,rfl⟩
theorem shrink_any (m d:Nat) (w:World) (hm:m<2^64) :
  Calls Tryd.prog 65 #[.int .u64 m,.int .i64 d] w fun e w'=>e = .returned (.int .u64 (Fm.stk m d:Nat))∧w=w':=by
 have HS:=Lib.hid (stk_min m d hm)
 have hD:min d 64≤64:=Nat.min_le_right _ _
 have e0:=wrap_mask (min d 64) hD
 have e1:=mask64 m (min d 64) hm hD e0
 have E3:=Lib.hid (or_one (m / 2^(min d 64)) (Nat.lt_of_le_of_lt (Nat.div_le_self _ _) hm))
 have E1:=Lib.hid e1
 clear hD e0 e1
 go_enter Tryd.func65,Tryd.ntmps65
 go_wp2
 all_goals go_ret
 ·rename_i hc
  refine ⟨ret_int ?_,rfl⟩
  rw[HS.out,if_neg (by rw[E1.out] at hc;intro h;rw[h] at hc;exact absurd hc (by decide))]
  have:=E3.out
  rw[Int.natCast_ediv,Int.natCast_pow] at this
  exact this
 ·rename_i hc
  refine ⟨ret_int ?_,rfl⟩
  rw[HS.out,if_pos (by rw[E1.out] at hc;generalize m % 2^(min d 64)=r at hc;simpa using hc)]
  simp
theorem cls_small {a:Nat}:Fm.cls a<2↔Fm.sz a<2^52:=by
 have hi:Fm.inf=2047*2^52:=rfl
 unfold Fm.cls
 repeat' split
 all_goals omega
theorem parts_any (a:Nat) (w:World) (ha:a<2^64) :
  Calls Tryd.prog 64 #[.int .u64 a] w fun e w'=>e = .returned (.tuple #[.int .i64 (Fm.pe (Fm.sz a):Nat),.int .u64 (Fm.pm (Fm.sz a) * 8:Nat)])∧w=w':=by
 have HC:=Lib.hid (@cls_small a)
 have HP:=Lib.hid (Fm.sz_lt a)
 have E2:=Lib.hid (mask64 a 52 ha (by decide) (M:=4503599627370495) (by decide))
 have E3:=Lib.hid (show bits .or .u64 ((a % 2^52:Nat):Int) 4503599627370496=((a % 2^52+2^52:Nat):Int) by
  have h:=set_bit (a % 2^52) 52 (by omega) (by decide) (M:=4503599627370496) (by decide)
  rw[h,Nat.mod_div_self]
  rfl)
 go_enter Tryd.func64,Tryd.ntmps64
 go_wp2_with fail
 refine (class_any a _ ha).mono ?_;rintro e w' ⟨rfl,rfl⟩
 go_wp2
 all_goals go_ret2
 all_goals (refine ⟨tuple_eq (int_eq ?_) (int_eq ?_),rfl⟩)
 all_goals (have hc:=HC.out;have hp:=HP.out;have e3:=E3.out;have e2:=E2.out;clear HC HP E3 E2)
 ·simp at *
  rw[Fm.pe,if_pos (by omega)];rfl
 ·have hs:Fm.sz a<2^52:=hc.1 (by rename_i h;simp at h;omega)
  show IntKind.u64.wrap (bits .and .u64 (a:Int) 4503599627370495 * 8)=_
  rw[e2,Fm.pm,if_pos hs,IntKind.wrap_u64]
  unfold Fm.sz at *
  omega
 ·simp at *
  rw[Fm.pe,if_pos (by omega)];rfl
 ·have hs:Fm.sz a<2^52:=hc.1 (by rename_i h;simp at h;omega)
  show IntKind.u64.wrap (bits .and .u64 (a:Int) 4503599627370495 * 8)=_
  rw[e2,Fm.pm,if_pos hs,IntKind.wrap_u64]
  unfold Fm.sz at *
  omega
 ·have hs:¬Fm.sz a<2^52:=fun h=>by rename_i h1 h2;have:=hc.2 h;simp at h1 h2;omega
  show wrap64 (bits .andNot .u64 (a:Int) 9223372036854775808 / 4503599627370496)=_
  rw[not_sign a ha,wrap64_id (by omega) (by omega),Fm.pe,if_neg hs]
  omega
 ·have hs:¬Fm.sz a<2^52:=fun h=>by rename_i h1 h2;have:=hc.2 h;simp at h1 h2;omega
  show IntKind.u64.wrap (bits .or .u64 (bits .and .u64 (a:Int) 4503599627370495) 4503599627370496 * 8)=_
  rw[e2,e3,Fm.pm,if_neg hs,IntKind.wrap_u64]
  unfold Fm.sz at *
  omega
open Go.RowKit Go.Extern.Stop Go.Stop Go.Extern
theorem Tryd.methodComparable (h:Value) (w:World):(Go.method 298 147 (.agg #[h]) "Comparable").run Tryd.prog w = .ok (104,.agg #[h]) w:=by kernel_rfl
theorem Tryd.comparableOther (w:World):(ReflectliteType.method (fun t=>do Rtype.noPackHeld "Comparable" t;(fun i:TypeInfo=>Value.bool i.comparable) <$> typeInfo t) #[.agg #[.pointer (some ⟨2,165,none⟩)]]).run Tryd.prog w = .ok (.bool true) w:=by kernel_rfl
theorem is_other (ws:List (Bool × Int)) (v:Value) (p:Addr) (w:World) (he:isErr w ws v (.iface 165 (.pointer (some p)))) :
  Calls Tryd.prog 63 #[v,.iface 165 (.pointer (some p)),.bool true] w fun e w'=>e = .returned (.bool true)∧w=w':=by
 have hroot:isRoot (.iface 165 (.pointer (some p))) := .inr ⟨_,rfl⟩
 have kkt1:=fun (v:Value) (w:World)=>run_eql_iface_types (P:=Tryd.prog) (ti:=39) 90 165 v (.pointer (some p)) Tryd.underlying39 (by decide) w
 have kkt2:=fun (v:Value) (w:World)=>run_eql_iface_types (P:=Tryd.prog) (ti:=39) 97 165 v (.pointer (some p)) Tryd.underlying39 (by decide) w
 have kkt3:∀ w:World,(binOp .eql 39 (.iface 165 (.pointer (some p))) (.iface 165 (.pointer (some p)))).run Tryd.prog w = .ok (.bool true) w:=fun w=>by
  have h1:(Tryd.prog.info? 165).map (·.comparable)=some true:=by kernel_rfl
  have h2:(Tryd.prog.info? 186).isSome=true:=by kernel_rfl
  cases hi:Tryd.prog.info? 165 with
  | none=>rw[hi] at h1;simp at h1
  | some i =>
   rw[hi] at h1
   cases hj:Tryd.prog.info? 186 with
   | none=>rw[hj] at h2;simp at h2
   | some j=>exact run_eql_iface_ptr_same (i:=i) (j:=j) w p Tryd.underlying39 Tryd.underlying165 hi (by simpa using h1) hj
 have kki2:=Tryd.isIsWhere
 have kki3:=Tryd.isIsField
 have kku2:=Tryd.isUnWhere
 have kku3:=Tryd.isUnField
 have kkm1:=Tryd.unwrapWhere
 have kkm2:=Tryd.unwrapField
 have HE:=Lib.hid he
 have HROOT:=Lib.hid hroot
 clear he hroot
 go_enter Tryd.func63,Tryd.ntmps63
 go_wp2
 go_loopg [0] ws.length (fun k v wr=>∃ ws',ws'.length≤k∧isErr w ws' v (.iface 165 (.pointer (some p)))∧wr=w)
 case atStart=>exact ⟨ws,Nat.le_refl _,HE.out,rfl⟩
 case round =>
  obtain ⟨ws',hk,hr,rfl⟩:=hrel
  match ws',hk,hr with
  | [],hk,hr =>
   obtain rfl:u0=_:=hr
   go_wp2
   go_ret
   exact ⟨rfl,rfl⟩
  | (true,n)::ws',hk,hr =>
   obtain ⟨a,x,hv,ha,hh,hr'⟩:=hr
   obtain ⟨T,y,rfl⟩:=isErr_iface hr' HROOT.out
   rw[show wrapT true=90 from rfl] at hv
   subst hv
   have HH:=Lib.hid (show wr.heap[a]? = some (.cells #[.int .i64 n,.iface T y] 92 (0,0)) from hh)
   have HR:=Lib.hid hr'
   clear hh hr'
   go_wp2_with (go_at_call 95;refine (unwrap_where a n _ _ HH.out).mono ?_;rintro e w' ⟨rfl,rfl⟩)
   go_roundg (gk - 1)
   case measure=>simp at hk;omega
   case rel=>exact ⟨ws',by simp at hk;omega,HR.out,rfl⟩
  | (false,n)::ws',hk,hr =>
   obtain ⟨a,x,hv,ha,hh,hr'⟩:=hr
   obtain ⟨T,y,rfl⟩:=isErr_iface hr' HROOT.out
   rw[show wrapT false=97 from rfl] at hv
   subst hv
   have HH:=Lib.hid (show wr.heap[a]? = some (.cells #[.int .i64 n,.iface T y] 99 (0,0)) from hh)
   have HR:=Lib.hid hr'
   clear hh hr'
   go_wp2_with (go_at_call 97;refine (unwrap_field a n _ _ HH.out).mono ?_;rintro e w' ⟨rfl,rfl⟩)
   go_roundg (gk - 1)
   case measure=>simp at hk;omega
   case rel=>exact ⟨ws',by simp at hk;omega,HR.out,rfl⟩
theorem is_apart (ws:List (Bool × Int)) (v:Value) (c:Int) (p:Addr) (w:World) (he:isErr w ws v (codeV c)) :
  Calls Tryd.prog 63 #[v,.iface 165 (.pointer (some p)),.bool true] w fun e w'=>e = .returned (.bool false)∧w=w':=by
 have hroot:isRoot (codeV c) := .inl ⟨_,rfl⟩
 have kkt1:=fun (v:Value) (w:World)=>run_eql_iface_types (P:=Tryd.prog) (ti:=39) 90 165 v (.pointer (some p)) Tryd.underlying39 (by decide) w
 have kkt2:=fun (v:Value) (w:World)=>run_eql_iface_types (P:=Tryd.prog) (ti:=39) 97 165 v (.pointer (some p)) Tryd.underlying39 (by decide) w
 have kkt3:=fun (v:Value) (w:World)=>run_eql_iface_types (P:=Tryd.prog) (ti:=39) 59 165 v (.pointer (some p)) Tryd.underlying39 (by decide) w
 have kki1:=Tryd.isIsCode
 have kki2:=Tryd.isIsWhere
 have kki3:=Tryd.isIsField
 have kki4:=Tryd.isIsOther
 have kku1:=Tryd.isUnCode
 have kku2:=Tryd.isUnWhere
 have kku3:=Tryd.isUnField
 have kku4:=Tryd.isUnOther
 have kkl1:=Tryd.isUnlCode
 have kkl2:=Tryd.isUnlOther
 have kkm1:=Tryd.unwrapWhere
 have kkm2:=Tryd.unwrapField
 have HE:=Lib.hid he
 have HROOT:=Lib.hid hroot
 clear he hroot
 go_enter Tryd.func63,Tryd.ntmps63
 go_wp2
 go_loopg [0] ws.length (fun k v wr=>∃ ws',ws'.length≤k∧isErr w ws' v (codeV c)∧wr=w)
 case atStart=>exact ⟨ws,Nat.le_refl _,HE.out,rfl⟩
 case round =>
  obtain ⟨ws',hk,hr,rfl⟩:=hrel
  match ws',hk,hr with
  | [],hk,hr =>
   obtain rfl:u0=codeV c:=hr
   rw[codeV]
   go_wp2
   go_ret
   exact ⟨rfl,rfl⟩
  | (true,n)::ws',hk,hr =>
   obtain ⟨a,x,hv,ha,hh,hr'⟩:=hr
   obtain ⟨T,y,rfl⟩:=isErr_iface hr' HROOT.out
   rw[show wrapT true=90 from rfl] at hv
   subst hv
   have HH:=Lib.hid (show wr.heap[a]? = some (.cells #[.int .i64 n,.iface T y] 92 (0,0)) from hh)
   have HR:=Lib.hid hr'
   clear hh hr'
   go_wp2_with (go_at_call 95;refine (unwrap_where a n _ _ HH.out).mono ?_;rintro e w' ⟨rfl,rfl⟩)
   go_roundg (gk - 1)
   case measure=>simp at hk;omega
   case rel=>exact ⟨ws',by simp at hk;omega,HR.out,rfl⟩
  | (false,n)::ws',hk,hr =>
   obtain ⟨a,x,hv,ha,hh,hr'⟩:=hr
   obtain ⟨T,y,rfl⟩:=isErr_iface hr' HROOT.out
   rw[show wrapT false=97 from rfl] at hv
   subst hv
   have HH:=Lib.hid (show wr.heap[a]? = some (.cells #[.int .i64 n,.iface T y] 99 (0,0)) from hh)
   have HR:=Lib.hid hr'
   clear hh hr'
   go_wp2_with (go_at_call 97;refine (unwrap_field a n _ _ HH.out).mono ?_;rintro e w' ⟨rfl,rfl⟩)
   go_roundg (gk - 1)
   case measure=>simp at hk;omega
   case rel=>exact ⟨ws',by simp at hk;omega,HR.out,rfl⟩
theorem errIs_other (ws:List (Bool × Int)) (v:Value) (p:Addr) (w:World) (he:isErr w ws v (.iface 165 (.pointer (some p)))) :
  Calls Tryd.prog 43 #[v,.iface 165 (.pointer (some p))] w fun e w'=>e = .returned (.bool true)∧w=w':=by
 obtain ⟨T,x,rfl⟩:=isErr_iface he (.inr ⟨_,rfl⟩)
 have h25:=@run_callFunc_extern Tryd.prog 62 _ ReflectliteType.typeOf Tryd.func62 (by kernel_rfl) (by kernel_rfl) (by kernel_rfl) (by kernel_rfl)
 have h64:=@run_callFunc_extern Tryd.prog 104 _ (ReflectliteType.method fun t=>do Rtype.noPackHeld "Comparable" t;pure (.bool (←typeInfo t).comparable)) Tryd.func104 (by kernel_rfl) (by kernel_rfl) (by kernel_rfl) (by kernel_rfl)
 have kkt:=Tryd.typeOfOther
 have kka:=Tryd.methodComparable
 have kkb:=Tryd.comparableOther
 have HE:=Lib.hid he
 clear he
 go_enter Tryd.func43,Tryd.ntmps43
 go_wp2_with (go_at_call 63;refine (is_other ws _ p w HE.out).mono ?_;rintro e w' ⟨rfl,rfl⟩)
 go_ret
 exact ⟨rfl,rfl⟩
theorem errIs_apart (ws:List (Bool × Int)) (v:Value) (c:Int) (p:Addr) (w:World) (he:isErr w ws v (codeV c)) :
  Calls Tryd.prog 43 #[v,.iface 165 (.pointer (some p))] w fun e w'=>e = .returned (.bool false)∧w=w':=by
 obtain ⟨T,x,rfl⟩:=isErr_iface he (.inl ⟨_,rfl⟩)
 have h25:=@run_callFunc_extern Tryd.prog 62 _ ReflectliteType.typeOf Tryd.func62 (by kernel_rfl) (by kernel_rfl) (by kernel_rfl) (by kernel_rfl)
 have h64:=@run_callFunc_extern Tryd.prog 104 _ (ReflectliteType.method fun t=>do Rtype.noPackHeld "Comparable" t;pure (.bool (←typeInfo t).comparable)) Tryd.func104 (by kernel_rfl) (by kernel_rfl) (by kernel_rfl) (by kernel_rfl)
 have kkt:=Tryd.typeOfOther
 have kka:=Tryd.methodComparable
 have kkb:=Tryd.comparableOther
 have HE:=Lib.hid he
 clear he
 go_enter Tryd.func43,Tryd.ntmps43
 go_wp2_with (go_at_call 63;refine (is_apart ws _ c p w HE.out).mono ?_;rintro e w' ⟨rfl,rfl⟩)
 go_ret
 exact ⟨rfl,rfl⟩
theorem errIs_none (p:Addr) (w:World):Calls Tryd.prog 43 #[.nilIface,.iface 165 (.pointer (some p))] w fun e w'=>e = .returned (.bool false)∧w=w':=by
 go_enter Tryd.func43,Tryd.ntmps43
 have kkn:=fun (w:World)=>run_eql_iface_nil_left (P:=Tryd.prog) (w:=w) (ti:=39) 165 (.pointer (some p)) Tryd.underlying39
 go_wp2
 go_ret
 exact ⟨rfl,rfl⟩
end Go.Proofs.YtoggpnfeioaidaaDoor
