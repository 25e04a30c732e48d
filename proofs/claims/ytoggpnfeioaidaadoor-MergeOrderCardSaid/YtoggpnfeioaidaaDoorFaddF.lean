/-
  FaddA, FaddF
-/
import Derived.Test.YtoggpnfeioaidaaDoorGet
import Derived.Test.YtoggpnfeioaidaaDoorFmC
import Derived.Deep.LoopGhost
import Derived.Lib.MinMax
set_option maxRecDepth 1000000
set_option maxHeartbeats 16000000
namespace Go.Proofs.YtoggpnfeioaidaaDoor
open Go.RowKit
theorem u64_toNat (n:Nat) (h:n<2^64):(BitVec.ofInt 64 (n:Int)).toNat=n:=by
 have:=toNat_ofInt64 n
 omega
theorem and64 (a b:Nat) (ha:a<2^64) (hb:b<2^64):bits .and .u64 (a:Int) (b:Int)=((a &&& b:Nat):Int):=by
 show IntKind.u64.wrap ((BitVec.ofInt 64 (a:Int) &&& BitVec.ofInt 64 (b:Int)).toNat:Int)=_
 rw[BitVec.toNat_and,u64_toNat a ha,u64_toNat b hb,IntKind.wrap_u64]
 have:a &&& b<2^64:=Nat.and_lt_two_pow _ hb
 omega
theorem or64 (a b:Nat) (ha:a<2^64) (hb:b<2^64):bits .or .u64 (a:Int) (b:Int)=((a ||| b:Nat):Int):=by
 show IntKind.u64.wrap ((BitVec.ofInt 64 (a:Int) ||| BitVec.ofInt 64 (b:Int)).toNat:Int)=_
 rw[BitVec.toNat_or,u64_toNat a ha,u64_toNat b hb,IntKind.wrap_u64]
 have:a ||| b<2^64:=Nat.or_lt_two_pow ha hb
 omega
theorem mask64 (a k:Nat) (ha:a<2^64) (hk:k≤64) {M:Int} (hM:M=((2^k - 1:Nat):Int)):bits .and .u64 (a:Int) M=((a % 2^k:Nat):Int):=by
 have:2^k≤2^64:=Nat.pow_le_pow_right (by decide) hk
 have:0<2^k:=Nat.two_pow_pos k
 rw[hM,and64 a (2^k-1) ha (by omega),Nat.and_two_pow_sub_one_eq_mod]
theorem not_sign (a:Nat) (ha:a<2^64):bits .andNot .u64 (a:Int) 9223372036854775808=((Fm.sz a:Nat):Int):=by
 show IntKind.u64.wrap ((BitVec.ofInt 64 (a:Int) &&& ~~~ (BitVec.ofInt 64 9223372036854775808)).toNat:Int)=_
 rw[BitVec.toNat_and,u64_toNat a ha,show (~~~ (BitVec.ofInt 64 9223372036854775808)).toNat=2^63 - 1 from by decide,Nat.and_two_pow_sub_one_eq_mod,IntKind.wrap_u64]
 unfold Fm.sz
 omega
theorem and_high (a:Nat) (ha:a<2^64):a &&& 2^63=Fm.sg a * 2^63:=by
 unfold Fm.sg
 have e1:(a &&& 2^63) % 2^63=0:=by rw[Nat.and_mod_two_pow];simp
 have e2:(a &&& 2^63) / 2^63=a / 2^63 &&& 1:=by rw[Nat.and_div_two_pow]
 have h1:=Nat.div_add_mod (a &&& 2^63) (2^63)
 rw[e1,e2,Nat.and_one_is_mod] at h1
 have:a / 2^63<2:=by omega
 omega
theorem sign_of (a:Nat) (ha:a<2^64):bits .and .u64 (a:Int) 9223372036854775808=((Fm.sg a * 2^63:Nat):Int):=by
 rw[show (9223372036854775808:Int)=((2^63:Nat):Int) by decide,and64 a _ ha (by decide),and_high a ha]
theorem join64 (x y k:Nat) (hx:x % 2^k=0) (hy:y<2^k) (hl:x+y<2^64):bits .or .u64 (x:Int) (y:Int)=((x+y:Nat):Int):=by
 rw[or64 x y (by omega) (by omega),nat_join k x y hx hy]
theorem set_bit (a k:Nat) (ha:a<2^64) (hk:k<64) {M:Int} (hM:M=((2^k:Nat):Int)):bits .or .u64 (a:Int) M=((if a / 2^k % 2=1 then a else a+2^k:Nat):Int):=by
 have h2:2^k<2^64:=Nat.pow_lt_pow_right (by decide) hk
 rw[hM,or64 a _ ha h2]
 congr 1
 have e1:(a ||| 2^k) % 2^k=a % 2^k:=by rw[Nat.or_mod_two_pow];simp
 have e2:(a ||| 2^k) / 2^k=a / 2^k ||| 1:=by rw[Nat.or_div_two_pow,Nat.div_self (Nat.two_pow_pos k)]
 have e3:a / 2^k ||| 1=if a / 2^k % 2=1 then a / 2^k else a / 2^k+1:=by
  generalize a / 2^k=q
  have e4:=nat_join 1 (q / 2 * 2) 1 (by simp) (by decide)
  split
  ·rename_i h
   have:q=q / 2 * 2+1:=by omega
   rw[this,←e4,Nat.or_assoc,Nat.or_self]
  ·rename_i h
   have:q=q / 2 * 2:=by omega
   rw[this,e4]
 have h1:=Nat.div_add_mod (a ||| 2^k) (2^k)
 have h3:=Nat.div_add_mod a (2^k)
 rw[e1,e2,e3] at h1
 split at h1
 ·rename_i h;rw[if_pos h];omega
 ·rename_i h;rw[if_neg h,←h1,Nat.mul_add];omega
theorem quiet_of (a:Nat) (ha:a<2^64):bits .or .u64 (a:Int) 2251799813685248=((Fm.quiet a:Nat):Int):=set_bit a 51 ha (by decide) (by decide)
open Go.RowKit
theorem stk_min (m d:Nat) (hm:m<2^64):Fm.stk m d=if m % 2^(min d 64)=0 then m / 2^(min d 64) else m / 2^(min d 64) / 2 * 2+1:=by
 rcases Nat.le_total d 64 with h|h
 ·rw[Nat.min_eq_left h];rfl
 ·have h1:m<2^d:=Nat.lt_of_lt_of_le hm (Nat.pow_le_pow_right (by decide) h)
  rw[Nat.min_eq_right h]
  unfold Fm.stk
  rw[Nat.mod_eq_of_lt h1,Nat.div_eq_of_lt h1,Nat.mod_eq_of_lt hm,Nat.div_eq_of_lt hm]
theorem wrap_mask (D:Nat) (h:D≤64):IntKind.u64.wrap (IntKind.u64.wrap (2 ^ D) - 1)=((2^D - 1:Nat):Int):=by
 have h0:0<2^D:=Nat.two_pow_pos D
 have h1:2^D≤2^64:=Nat.pow_le_pow_right (by decide) h
 have e:((2:Int) ^ D)=((2^D:Nat):Int):=by simp
 rw[e,IntKind.wrap_u64,IntKind.wrap_u64]
 generalize 2^D=P at *
 omega
theorem or_one (q:Nat) (hq:q<2^64):bits .or .u64 (q:Int) 1=((q / 2 * 2+1:Nat):Int):=by
 have h:=set_bit q 0 hq (by decide) (M:=1) rfl
 rw[h]
 simp
 split<;>omega
theorem tuple_eq {a b:Value} {c d:Value} (h:a=c) (h2:b=d):Ending.returned (.tuple #[a,b])=Ending.returned (.tuple #[c,d]):=by rw[h,h2]
theorem int_eq {k:IntKind} {a b:Int} (h:a=b):Value.int k a = .int k b:=by rw[h]
theorem class_any (a:Nat) (w:World) (ha:a<2^64) :
  Calls Tryd.prog 44 #[.int .u64 a] w fun e w'=>e = .returned (.int .i64 (Fm.cls a:Nat))∧w=w':=by
 have e1:=not_sign a ha
 have hi:Fm.inf=9218868437227405312:=by decide
 have HC:=Lib.hid (show Fm.cls a=if 9218868437227405312<Fm.sz a then 4 else if Fm.sz a=9218868437227405312 then 3 else if 4503599627370496≤Fm.sz a then 2 else if 0<Fm.sz a then 1 else 0 by unfold Fm.cls;rw[hi])
 clear hi
 generalize Fm.cls a=c at HC ⊢
 generalize Fm.sz a=s at e1 HC
 have h1:decide ((s:Int)>9218868437227405312)=decide (9218868437227405312<s):=by rw[decide_eq_decide];omega
 have h2:((s:Int) == 9218868437227405312)=decide (s=9218868437227405312):=by rw[Bool.eq_iff_iff];simp;omega
 have h3:decide ((s:Int) ≥ 4503599627370496)=decide (4503599627370496≤s):=by rw[decide_eq_decide];omega
 go_enter Tryd.func44,Tryd.ntmps44
 go_wp2
 all_goals go_ret
 all_goals (refine ⟨ret_int ?_,rfl⟩;rw[HC.out];repeat' split)
 all_goals first|omega|rfl
theorem quiet_any (a:Nat) (w:World) (ha:a<2^64) :
  Calls Tryd.prog 45 #[.int .u64 a] w fun e w'=>e = .returned (.int .u64 (Fm.quiet a:Nat))∧w=w':=by
 have e1:=quiet_of a ha
 go_enter Tryd.func45,Tryd.ntmps45
 go_wp2
 go_ret
 exact ⟨rfl,rfl⟩
theorem shrink_any (m d:Nat) (w:World) (hm:m<2^64) :
  Calls Tryd.prog 65 #[.int .u64 m,.int .i64 d] w fun e w'=>e = .returned (.int .u64 (Fm.stk m d:Nat))∧w=w':=by
 have HS:=Lib.hid (stk_min m d hm)
 have hD:min d 64≤64:=Nat.min_le_right _ _
 have e0:=wrap_mask (min d 64) hD
 have e1:=mask64 m (min d 64) hm hD e0
 have E3:=Lib.hid (or_one (m / 2^(min d 64)) (Nat.lt_of_le_of_lt (Nat.div_le_self _ _) hm))
 have E1:=Lib.hid e1
 clear hD e0 e1
 go_enter Tryd.func65,Tryd.ntmps65
 go_wp2
 all_goals go_ret
 ·rename_i hc
  refine ⟨ret_int ?_,rfl⟩
  rw[HS.out,if_neg (by rw[E1.out] at hc;intro h;rw[h] at hc;exact absurd hc (by decide))]
  have:=E3.out
  rw[Int.natCast_ediv,Int.natCast_pow] at this
  exact this
 ·rename_i hc
  refine ⟨ret_int ?_,rfl⟩
  rw[HS.out,if_pos (by rw[E1.out] at hc;generalize m % 2^(min d 64)=r at hc;simpa using hc)]
  simp
theorem cls_small {a:Nat}:Fm.cls a<2↔Fm.sz a<2^52:=by
 have hi:Fm.inf=2047*2^52:=rfl
 unfold Fm.cls
 repeat' split
 all_goals omega
theorem parts_any (a:Nat) (w:World) (ha:a<2^64) :
  Calls Tryd.prog 64 #[.int .u64 a] w fun e w'=>e = .returned (.tuple #[.int .i64 (Fm.pe (Fm.sz a):Nat),.int .u64 (Fm.pm (Fm.sz a) * 8:Nat)])∧w=w':=by
 have HC:=Lib.hid (@cls_small a)
 have HP:=Lib.hid (Fm.sz_lt a)
 have E2:=Lib.hid (mask64 a 52 ha (by decide) (M:=4503599627370495) (by decide))
 have E3:=Lib.hid (show bits .or .u64 ((a % 2^52:Nat):Int) 4503599627370496=((a % 2^52+2^52:Nat):Int) by
  have h:=set_bit (a % 2^52) 52 (by omega) (by decide) (M:=4503599627370496) (by decide)
  rw[h,Nat.mod_div_self]
  rfl)
 go_enter Tryd.func64,Tryd.ntmps64
 go_wp2_with fail
 refine (class_any a _ ha).mono ?_;rintro e w' ⟨rfl,rfl⟩
 go_wp2
 all_goals go_ret2
 all_goals (refine ⟨tuple_eq (int_eq ?_) (int_eq ?_),rfl⟩)
 all_goals (have hc:=HC.out;have hp:=HP.out;have e3:=E3.out;have e2:=E2.out;clear HC HP E3 E2)
 ·simp at *
  rw[Fm.pe,if_pos (by omega)];rfl
 ·have hs:Fm.sz a<2^52:=hc.1 (by rename_i h;simp at h;omega)
  show IntKind.u64.wrap (bits .and .u64 (a:Int) 4503599627370495 * 8)=_
  rw[e2,Fm.pm,if_pos hs,IntKind.wrap_u64]
  unfold Fm.sz at *
  omega
 ·simp at *
  rw[Fm.pe,if_pos (by omega)];rfl
 ·have hs:Fm.sz a<2^52:=hc.1 (by rename_i h;simp at h;omega)
  show IntKind.u64.wrap (bits .and .u64 (a:Int) 4503599627370495 * 8)=_
  rw[e2,Fm.pm,if_pos hs,IntKind.wrap_u64]
  unfold Fm.sz at *
  omega
 ·have hs:¬Fm.sz a<2^52:=fun h=>by rename_i h1 h2;have:=hc.2 h;simp at h1 h2;omega
  show wrap64 (bits .andNot .u64 (a:Int) 9223372036854775808 / 4503599627370496)=_
  rw[not_sign a ha,wrap64_id (by omega) (by omega),Fm.pe,if_neg hs]
  omega
 ·have hs:¬Fm.sz a<2^52:=fun h=>by rename_i h1 h2;have:=hc.2 h;simp at h1 h2;omega
  show IntKind.u64.wrap (bits .or .u64 (bits .and .u64 (a:Int) 4503599627370495) 4503599627370496 * 8)=_
  rw[e2,e3,Fm.pm,if_neg hs,IntKind.wrap_u64]
  unfold Fm.sz at *
  omega
open Go.RowKit
theorem g_eight (M:Nat):Fm.g (Fm.stk M 1)=M / 8+(if 4<M % 8∨(M % 8=4∧M / 8 % 2=1) then 1 else 0):=by
 unfold Fm.g Fm.stk
 split<;>split<;>split<;>omega
theorem round_bits {S e M:Nat} (h:Fm.J S e M) (hs:2^55≤M∨e=1) :
  (4<M % 8→min ((e - 1) * 2^52+(M / 8+1)) Fm.inf=Fm.rnd S)∧(M % 8=4→M / 8 % 2=1→min ((e - 1) * 2^52+(M / 8+1)) Fm.inf=Fm.rnd S) ∧
  (M % 8=4→M / 8 % 2=0→min ((e - 1) * 2^52+M / 8) Fm.inf=Fm.rnd S)∧(M % 8<4→min ((e - 1) * 2^52+M / 8) Fm.inf=Fm.rnd S):=by
 have hd:=h.done hs
 rw[g_eight] at hd
 refine ⟨fun h1=>?_,fun h1 h2=>?_,fun h1 h2=>?_,fun h1=>?_⟩
 ·rw[if_pos (.inl h1)] at hd;exact hd
 ·rw[if_pos (.inr ⟨h1,h2⟩)] at hd;exact hd
 ·rw[if_neg (by omega)] at hd;exact hd
 ·rw[if_neg (by omega)] at hd;exact hd
theorem min_int {e q R:Nat} {m:Int} (he:1≤e) (h:min ((e - 1) * 2^52+q) Fm.inf=R) (hm:m=((q:Nat):Int):=by omega) :
  min (((e:Int) - 1) * 4503599627370496+m) 9218868437227405312=((R:Nat):Int):=by
 have hi:Fm.inf=2047 * 2^52:=rfl
 rw[hi] at h
 omega
theorem round_any' (S e M R:Nat) (w:World) (hR:Hid (Fm.rnd S=R)) (h:Hid (Fm.J0 S e M)) (he:e≤2046) (he1:1≤e) (hM:M<144115188075855872) :
  Calls Tryd.prog 66 #[.int .i64 e,.int .u64 M] w fun x w'=>x = .returned (.int .u64 (R:Int))∧w=w':=by
 rcases Nat.lt_or_ge M 72057594037927936 with hm|hm
 ·have h1:decide ((M:Int) ≥ 72057594037927936)=false:=by simp;omega
  have HJ:=Lib.hid (h.out.low hm)
  go_enter Tryd.func66,Tryd.ntmps66
  go_wp2
  go_loop [0,1] (fun v k=>∃ (e' M':Nat),v = .int .i64 (e':Int)∧k = .int .u64 (M':Int)∧Fm.J S e' M'∧e'≤2047) (fun v _=>(intOf v).toNat)
  case atStart=>exact ⟨e,M,rfl,rfl,HJ.out,by omega⟩
  case round =>
   obtain ⟨e',M',rfl,rfl,HR0,hle⟩:=hrel
   have hb:M' < 72057594037927936:=HR0.2.1
   have hp:=HR0.1
   have HR:=Lib.hid HR0
   clear HR0
   rcases (by omega:(M' < 2^55∧1<e')∨(2^55≤M'∨e'=1)) with ⟨hc,hc1⟩|hc
   ·have R:=Lib.hid (HR.out.step hc hc1)
    have hx:IntKind.u64.wrap ((M':Int) * 2)=((M' * 2:Nat):Int):=by rw[IntKind.wrap_u64];omega
    have hd1:decide ((M':Int)<36028797018963968)=true:=by simp;omega
    have hd2:decide ((e':Int)>1)=true:=by simp;omega
    clear hc
    go_wp2
    refine ⟨⟨e' - 1,M' * 2,int_eq (by omega),int_eq (by omega),R.out,by omega⟩,by simp[intOf];omega⟩
   ·have HB:=Lib.hid (round_bits HR.out hc)
    have HM:=mask64 M' 3 (by omega) (by decide) (M:=7) (by decide)
    have HO:=u64_and_one (M' / 8)
    have hq:((M' / 8:Nat):Int)=(M':Int) / 8:=by omega
    rw[hq] at HO
    clear hq
    have hd:(decide ((M':Int)<36028797018963968)=false∨(decide ((M':Int)<36028797018963968)=true∧decide ((e':Int)>1)=false)):=by
     rcases Nat.lt_or_ge M' (2^55) with h|h
     ·right;constructor
      ·simp;omega
      ·simp;omega
     ·left;simp;omega
    have hr:(M' % 8<4∨4<M' % 8∨(M' % 8=4∧M' / 8 % 2=1)∨(M' % 8=4∧M' / 8 % 2=0)):=by omega
    clear hc
    rcases hr with hr|hr|⟨hr,hr2⟩|⟨hr,hr2⟩
    ·have HF:=Lib.hid ((HB.out.2.2.2 hr).trans hR.out)
     have e2:decide (((M' % 2^3:Nat):Int)>4)=false:=by simp;omega
     have e3:(((M' % 2^3:Nat):Int) == 4)=false:=by simp;omega
     clear hr HO
     generalize ((M' % 2^3:Nat):Int)=r at HM e2 e3
     rcases hd with hd1|⟨hd1,hd2⟩ <;>
     ·go_wp2
      go_ret
      exact ⟨ret_int (min_int hp HF.out),rfl⟩
    ·have HF:=Lib.hid ((HB.out.1 hr).trans hR.out)
     have e2:decide (((M' % 2^3:Nat):Int)>4)=true:=by simp;omega
     clear hr HO
     generalize ((M' % 2^3:Nat):Int)=r at HM e2
     rcases hd with hd1|⟨hd1,hd2⟩ <;>
     ·go_wp2
      go_ret
      exact ⟨ret_int (min_int hp HF.out),rfl⟩
    ·have HF:=Lib.hid ((HB.out.2.1 hr hr2).trans hR.out)
     have e2:bits .and .u64 (M':Int) 7=4:=by rw[HM,show 2^3=8 from rfl,hr];rfl
     rw[hr2] at HO
     clear hr HM hr2
     rcases hd with hd1|⟨hd1,hd2⟩ <;>
     ·go_wp2
      go_ret
      exact ⟨ret_int (min_int hp HF.out),rfl⟩
    ·have HF:=Lib.hid ((HB.out.2.2.1 hr hr2).trans hR.out)
     have e2:bits .and .u64 (M':Int) 7=4:=by rw[HM,show 2^3=8 from rfl,hr];rfl
     rw[hr2] at HO
     clear hr HM hr2
     rcases hd with hd1|⟨hd1,hd2⟩ <;>
     ·go_wp2
      go_ret
      exact ⟨ret_int (min_int hp HF.out),rfl⟩
 ·have h1:decide ((M:Int) ≥ 72057594037927936)=true:=by simp;omega
  have HJ:=Lib.hid (h.out.high hm)
  go_enter Tryd.func66,Tryd.ntmps66
  go_wp2_with fail
  refine (shrink_any M 1 _ (by omega)).mono ?_;rintro x w' ⟨rfl,rfl⟩
  go_wp2
  go_loop [0,1] (fun v k=>∃ (e' M':Nat),v = .int .i64 (e':Int)∧k = .int .u64 (M':Int)∧Fm.J S e' M'∧e'≤2047) (fun v _=>(intOf v).toNat)
  case atStart=>exact ⟨e+1,Fm.stk M 1,rfl,rfl,HJ.out,by omega⟩
  case round =>
   obtain ⟨e',M',rfl,rfl,HR0,hle⟩:=hrel
   have hb:M' < 72057594037927936:=HR0.2.1
   have hp:=HR0.1
   have HR:=Lib.hid HR0
   clear HR0
   rcases (by omega:(M' < 2^55∧1<e')∨(2^55≤M'∨e'=1)) with ⟨hc,hc1⟩|hc
   ·have R:=Lib.hid (HR.out.step hc hc1)
    have hx:IntKind.u64.wrap ((M':Int) * 2)=((M' * 2:Nat):Int):=by rw[IntKind.wrap_u64];omega
    have hd1:decide ((M':Int)<36028797018963968)=true:=by simp;omega
    have hd2:decide ((e':Int)>1)=true:=by simp;omega
    clear hc
    go_wp2
    refine ⟨⟨e' - 1,M' * 2,int_eq (by omega),int_eq (by omega),R.out,by omega⟩,by simp[intOf];omega⟩
   ·have HB:=Lib.hid (round_bits HR.out hc)
    have HM:=mask64 M' 3 (by omega) (by decide) (M:=7) (by decide)
    have HO:=u64_and_one (M' / 8)
    have hq:((M' / 8:Nat):Int)=(M':Int) / 8:=by omega
    rw[hq] at HO
    clear hq
    have hd:(decide ((M':Int)<36028797018963968)=false∨(decide ((M':Int)<36028797018963968)=true∧decide ((e':Int)>1)=false)):=by
     rcases Nat.lt_or_ge M' (2^55) with h|h
     ·right;constructor
      ·simp;omega
      ·simp;omega
     ·left;simp;omega
    have hr:(M' % 8<4∨4<M' % 8∨(M' % 8=4∧M' / 8 % 2=1)∨(M' % 8=4∧M' / 8 % 2=0)):=by omega
    clear hc
    rcases hr with hr|hr|⟨hr,hr2⟩|⟨hr,hr2⟩
    ·have HF:=Lib.hid ((HB.out.2.2.2 hr).trans hR.out)
     have e2:decide (((M' % 2^3:Nat):Int)>4)=false:=by simp;omega
     have e3:(((M' % 2^3:Nat):Int) == 4)=false:=by simp;omega
     clear hr HO
     generalize ((M' % 2^3:Nat):Int)=r at HM e2 e3
     rcases hd with hd1|⟨hd1,hd2⟩ <;>
     ·go_wp2
      go_ret
      exact ⟨ret_int (min_int hp HF.out),rfl⟩
    ·have HF:=Lib.hid ((HB.out.1 hr).trans hR.out)
     have e2:decide (((M' % 2^3:Nat):Int)>4)=true:=by simp;omega
     clear hr HO
     generalize ((M' % 2^3:Nat):Int)=r at HM e2
     rcases hd with hd1|⟨hd1,hd2⟩ <;>
     ·go_wp2
      go_ret
      exact ⟨ret_int (min_int hp HF.out),rfl⟩
    ·have HF:=Lib.hid ((HB.out.2.1 hr hr2).trans hR.out)
     have e2:bits .and .u64 (M':Int) 7=4:=by rw[HM,show 2^3=8 from rfl,hr];rfl
     rw[hr2] at HO
     clear hr HM hr2
     rcases hd with hd1|⟨hd1,hd2⟩ <;>
     ·go_wp2
      go_ret
      exact ⟨ret_int (min_int hp HF.out),rfl⟩
    ·have HF:=Lib.hid ((HB.out.2.2.1 hr hr2).trans hR.out)
     have e2:bits .and .u64 (M':Int) 7=4:=by rw[HM,show 2^3=8 from rfl,hr];rfl
     rw[hr2] at HO
     clear hr HM hr2
     rcases hd with hd1|⟨hd1,hd2⟩ <;>
     ·go_wp2
      go_ret
      exact ⟨ret_int (min_int hp HF.out),rfl⟩
open Go.RowKit
theorem parts_at (a e m:Nat) (w:World) (ha:a<2^64) (hE:Hid (Fm.pe (Fm.sz a)=e)) (hM:Hid (Fm.pm (Fm.sz a) * 8=m)) :
  Calls Tryd.prog 64 #[.int .u64 a] w fun x w'=>x = .returned (.tuple #[.int .i64 (e:Nat),.int .u64 (m:Nat)])∧w=w':=by
 have h:=parts_any a w ha
 rw[hE.out,hM.out] at h
 exact h
theorem shrink_at (m d n:Nat) (w:World) (hm:m<2^64) (hN:Hid (Fm.stk m d=n)) {D:Int} (hD:D=(d:Int)) :
  Calls Tryd.prog 65 #[.int .u64 m,.int .i64 D] w fun e w'=>e = .returned (.int .u64 (n:Nat))∧w=w':=by
 have h:=shrink_any m d w hm
 rw[hN.out] at h
 rw[hD]
 exact h
theorem round_at (S e M R:Nat) (w:World) (h:Hid (Fm.J0 S e M)) (he:e≤2046) (hR:Hid (Fm.rnd S=R)) {M':Int} (hM:M'=(M:Int)) :
  Calls Tryd.prog 66 #[.int .i64 e,.int .u64 M'] w fun x w'=>x = .returned (.int .u64 (R:Nat))∧w=w':=by
 rw[hM]
 exact round_any' S e M R w hR h he h.out.1 h.out.2.1
theorem sg_and (a b:Nat):Fm.sg (a &&& b)=Fm.sg a &&& Fm.sg b:=by
 unfold Fm.sg
 rw[Nat.and_div_two_pow]
theorem and_sign (a b:Nat) (ha:a<2^64) (hb:b<2^64):bits .and .u64 (bits .and .u64 (a:Int) (b:Int)) 9223372036854775808=(((Fm.sg a &&& Fm.sg b) * 2^63:Nat):Int):=by
 rw[and64 a b ha hb,sign_of _ (Nat.and_lt_two_pow _ hb),sg_and]
theorem join_sign (s r:Nat) (hs:s=0∨s=1) (hr:r<2^63):bits .or .u64 ((s * 2^63:Nat):Int) (r:Int)=((s * 2^63+r:Nat):Int) :=
 join64 _ _ 63 (by omega) hr (by omega)
theorem fin_diff {a b:Nat} (hs:Fm.sg a≠Fm.sg b) (fa:Fm.sz a<Fm.inf) (h:Fm.sz b≤Fm.sz a) :
  Fm.fin a b=if Fm.dec (Fm.sz a) - Fm.dec (Fm.sz b)=0 then 0 else Fm.sg a * 2^63+Fm.rnd (Fm.dec (Fm.sz a) - Fm.dec (Fm.sz b)):=by
 have hd:=@Fm.dec_lt (Fm.sz b) (Fm.sz a) (by omega) (by omega)
 unfold Fm.fin
 rw[if_neg hs]
 split
 ·rename_i h1
  rw[if_pos (by rw[h1];omega)]
 ·rename_i h1
  rw[if_pos (by omega),if_neg (by omega)]
theorem low_le {x y:Nat} (hx:x<Fm.inf) (h:y≤x):Fm.stk (Fm.pm y * 8) (Fm.pe x - Fm.pe y)≤Fm.pm x * 8:=by
 have h1:=Fm.low_stk h 8
 have h2:Fm.stk (8 * Fm.dec x) (Fm.pe x - 1)=Fm.pm x * 8:=Fm.stk_exact (by rw[Fm.dec_parts,Nat.mul_comm (Fm.pm x) 8,Nat.mul_assoc])
 rw[←h1,←h2]
 exact Fm.stk_mono _ (Nat.mul_le_mul_left _ (Fm.dec_le (by omega) (by omega) h))
theorem finite_same (a b:Nat) (w:World) (ha:a<2^64) (hb:b<2^64) (fa:Hid (Fm.sz a<Fm.inf)) (h:Hid (Fm.sz b≤Fm.sz a)) (hs:Hid (Fm.sg a=Fm.sg b)) :
  Calls Tryd.prog 46 #[.int .u64 a,.int .u64 b] w fun e w'=>e = .returned (.int .u64 (Fm.fin a b:Nat))∧w=w':=by
 have HF:=Lib.hid (show Fm.fin a b=Fm.sg a * 2^63+Fm.rnd (Fm.dec (Fm.sz a)+Fm.dec (Fm.sz b)) by unfold Fm.fin;rw[if_pos hs.out])
 have HJ:=Lib.hid (Fm.J0_sum h.out)
 have hm1:=Fm.pm_lt (Fm.sz a)
 have hm2:=Fm.pm_lt (Fm.sz b)
 have hMM:=HJ.out.2.1
 have hee:=Fm.pe_mono h.out
 have he1:Fm.pe (Fm.sz a)≤2046:=by
  have h1:=fa.out
  have hi:Fm.inf=2047 * 2^52:=rfl
  unfold Fm.pe;split<;>omega
 obtain ⟨S,HS⟩:∃ S,Hid (Fm.dec (Fm.sz a)+Fm.dec (Fm.sz b)=S):=⟨_,Lib.hid rfl⟩
 obtain ⟨R,HR⟩:∃ R,Hid (Fm.rnd S=R):=⟨_,Lib.hid rfl⟩
 obtain ⟨e1,E1⟩:∃ e1,Hid (Fm.pe (Fm.sz a)=e1):=⟨_,Lib.hid rfl⟩
 obtain ⟨m1,M1⟩:∃ m1,Hid (Fm.pm (Fm.sz a) * 8=m1):=⟨_,Lib.hid rfl⟩
 obtain ⟨e2,E2⟩:∃ e2,Hid (Fm.pe (Fm.sz b)=e2):=⟨_,Lib.hid rfl⟩
 obtain ⟨m2,M2⟩:∃ m2,Hid (Fm.pm (Fm.sz b) * 8=m2):=⟨_,Lib.hid rfl⟩
 obtain ⟨n,N1⟩:∃ n,Hid (Fm.stk m2 (e1 - e2)=n):=⟨_,Lib.hid rfl⟩
 obtain ⟨F,FF⟩:∃ F,Hid (Fm.fin a b=F):=⟨_,Lib.hid rfl⟩
 have HJ:=HJ.out
 rw[M2.out,E1.out,E2.out,M1.out,N1.out] at HJ hMM
 rw[HS.out] at HJ
 rw[E1.out] at hee he1
 rw[E2.out] at hee
 have HJ:=Lib.hid HJ
 have HF:=HF.out
 have hR:R<2^63:=by rw[←HR.out];exact Nat.lt_of_le_of_lt (Fm.rnd_le S) Fm.inf_lt
 rw[HS.out,HR.out,FF.out] at HF
 rw[FF.out]
 have HZ:Hid (m1+n=0→R=0):=Lib.hid fun h0=>by
  have h1:=HJ.out.2.2.1
  have h2:=Fm.stk_spec (8 * S) (e1 - 1) 0
  have:S=0:=by omega
  rw[←HR.out,this];exact Fm.rnd_zero
 have hsg:=Lib.hid (Fm.sg_lt ha)
 have S1:=Lib.hid (sign_of a ha)
 have S2:=Lib.hid (sign_of b hb)
 have S3:=Lib.hid (and_sign a b ha hb)
 have S4:=Lib.hid (join_sign (Fm.sg a) R hsg.out hR)
 have hS:(bits .and .u64 (a:Int) 9223372036854775808 == bits .and .u64 (b:Int) 9223372036854775808)=true:=by rw[S1.out,S2.out,hs.out];simp
 have hm1':m1<72057594037927936:=by have:=M1.out;omega
 have hm2':m2<72057594037927936:=by have:=M2.out;omega
 have hMM':m1+n<144115188075855872:=hMM
 have HF:=Lib.hid HF
 clear hm1 hm2 hMM
 go_enter Tryd.func46,Tryd.ntmps46
 go_wp2_with fail
 refine (parts_at a e1 m1 _ ha E1 M1).mono ?_;rintro e w' ⟨rfl,rfl⟩
 go_wp2_with fail
 refine (parts_at b e2 m2 _ hb E2 M2).mono ?_;rintro e w' ⟨rfl,rfl⟩
 go_wp2_with fail
 refine (shrink_at m2 (e1 - e2) n _ (by omega) N1 (by omega)).mono ?_;rintro e w' ⟨rfl,rfl⟩
 go_wp2_with fail
 ·rename_i hz
  go_ret
  refine ⟨ret_int ?_,rfl⟩
  have h0:m1+n=0:=by simp at hz;omega
  rw[S3.out,HF.out,HZ.out h0,←hs.out,Nat.and_self,Nat.add_zero]
 ·refine (round_at S e1 (m1+n) R _ HJ he1 HR (by omega)).mono ?_;rintro e w' ⟨rfl,rfl⟩
  go_wp2_with fail
  go_ret
  refine ⟨ret_int ?_,rfl⟩
  rw[S1.out,S4.out,HF.out]
theorem finite_diff (a b:Nat) (w:World) (ha:a<2^64) (hb:b<2^64) (fa:Hid (Fm.sz a<Fm.inf)) (h:Hid (Fm.sz b≤Fm.sz a)) (hs:Hid (Fm.sg a≠Fm.sg b)) :
  Calls Tryd.prog 46 #[.int .u64 a,.int .u64 b] w fun e w'=>e = .returned (.int .u64 (Fm.fin a b:Nat))∧w=w':=by
 have HF:=Lib.hid (show Fm.fin a b=if Fm.dec (Fm.sz a) - Fm.dec (Fm.sz b)=0 then 0 else Fm.sg a * 2^63+Fm.rnd (Fm.dec (Fm.sz a) - Fm.dec (Fm.sz b)) from fin_diff hs.out fa.out h.out)
 have HJ:=Lib.hid (Fm.J0_diff (Nat.le_of_lt fa.out) h.out)
 have hm1:=Fm.pm_lt (Fm.sz a)
 have hm2:=Fm.pm_lt (Fm.sz b)
 have hMM:=HJ.out.2.1
 have hee:=Fm.pe_mono h.out
 have he1:Fm.pe (Fm.sz a)≤2046:=by
  have h1:=fa.out
  have hi:Fm.inf=2047 * 2^52:=rfl
  unfold Fm.pe;split<;>omega
 have hnm:=low_le fa.out h.out
 obtain ⟨S,HS⟩:∃ S,Hid (Fm.dec (Fm.sz a) - Fm.dec (Fm.sz b)=S):=⟨_,Lib.hid rfl⟩
 obtain ⟨R,HR⟩:∃ R,Hid (Fm.rnd S=R):=⟨_,Lib.hid rfl⟩
 obtain ⟨e1,E1⟩:∃ e1,Hid (Fm.pe (Fm.sz a)=e1):=⟨_,Lib.hid rfl⟩
 obtain ⟨m1,M1⟩:∃ m1,Hid (Fm.pm (Fm.sz a) * 8=m1):=⟨_,Lib.hid rfl⟩
 obtain ⟨e2,E2⟩:∃ e2,Hid (Fm.pe (Fm.sz b)=e2):=⟨_,Lib.hid rfl⟩
 obtain ⟨m2,M2⟩:∃ m2,Hid (Fm.pm (Fm.sz b) * 8=m2):=⟨_,Lib.hid rfl⟩
 obtain ⟨n,N1⟩:∃ n,Hid (Fm.stk m2 (e1 - e2)=n):=⟨_,Lib.hid rfl⟩
 obtain ⟨F,FF⟩:∃ F,Hid (Fm.fin a b=F):=⟨_,Lib.hid rfl⟩
 have HJ:=HJ.out
 rw[M2.out,E1.out,E2.out,M1.out,N1.out] at HJ hMM
 rw[M2.out,E1.out,E2.out,M1.out,N1.out] at hnm
 rw[HS.out] at HJ
 rw[E1.out] at hee he1
 rw[E2.out] at hee
 have HJ:=Lib.hid HJ
 have HF:=HF.out
 have hR:R<2^63:=by rw[←HR.out];exact Nat.lt_of_le_of_lt (Fm.rnd_le S) Fm.inf_lt
 rw[HS.out,HR.out,FF.out] at HF
 rw[FF.out]
 have HZ:Hid (m1 - n=0↔S=0):=Lib.hid (by
  have h1:=HJ.out.2.2.1
  have h2:=Fm.stk_spec (8 * S) (e1 - 1) 0
  omega)
 have hsg:=Lib.hid (Fm.sg_lt ha)
 have S1:=Lib.hid (sign_of a ha)
 have S2:=Lib.hid (sign_of b hb)
 have S3:=Lib.hid (and_sign a b ha hb)
 have S4:=Lib.hid (join_sign (Fm.sg a) R hsg.out hR)
 have hS:(bits .and .u64 (a:Int) 9223372036854775808 == bits .and .u64 (b:Int) 9223372036854775808)=false:=by rw[S1.out,S2.out];have h1:=hs.out;simp;omega
 have hm1':m1<72057594037927936:=by have:=M1.out;omega
 have hm2':m2<72057594037927936:=by have:=M2.out;omega
 have hMM':m1 - n<144115188075855872:=hMM
 have HF:=Lib.hid HF
 clear hm1 hm2 hMM
 go_enter Tryd.func46,Tryd.ntmps46
 go_wp2_with fail
 refine (parts_at a e1 m1 _ ha E1 M1).mono ?_;rintro e w' ⟨rfl,rfl⟩
 go_wp2_with fail
 refine (parts_at b e2 m2 _ hb E2 M2).mono ?_;rintro e w' ⟨rfl,rfl⟩
 go_wp2_with fail
 refine (shrink_at m2 (e1 - e2) n _ (by omega) N1 (by omega)).mono ?_;rintro e w' ⟨rfl,rfl⟩
 go_wp2_with fail
 ·rename_i hz
  go_ret
  refine ⟨ret_int ?_,rfl⟩
  have h0:m1 - n=0:=by simp at hz;omega
  rw[S3.out,HF.out,if_pos (HZ.out.1 h0)]
  have h1:=hs.out
  have h2:=hsg.out
  have h3:=Fm.sg_lt hb
  have h4:Fm.sg a &&& Fm.sg b=0:=by
   rcases h2 with h2|h2
   ·rw[h2,Nat.zero_and]
   ·rw[h2,show Fm.sg b=0 by omega];rfl
  rw[h4]
 ·have hz:(((m1:Int) - (n:Int)) == 0)=false:=by assumption
  have HN:Hid (¬S=0):=Lib.hid fun h0=>by have h1:=HZ.out.2 h0;simp at hz;omega
  refine (round_at S e1 (m1 - n) R _ HJ he1 HR (by omega)).mono ?_;rintro e w' ⟨rfl,rfl⟩
  go_wp2_with fail
  go_ret
  refine ⟨ret_int ?_,rfl⟩
  rw[S1.out,S4.out,HF.out,if_neg HN.out]
end Go.Proofs.YtoggpnfeioaidaaDoor
