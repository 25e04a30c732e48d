/-
  FaddRefA, CkRef
-/
import Derived.Test.YtcblkndiclkacaaDoorCkBase
import Derived.Lib.MinMax
import Derived.Test.YtcblkndiclkacaaDoorDoor
set_option maxRecDepth 1000000
set_option maxHeartbeats 16000000
namespace Go.Proofs.YtcblkndiclkacaaDoor
open Go.RowKit
theorem expo' (a:Nat) (ha:a<2^64):bits .and .u64 ((a:Int) / 4503599627370496) 2047=((Fm.sz a / 2^52:Nat):Int):=by
 have e:((a:Int) / 4503599627370496)=((a / 2^52:Nat):Int):=by omega
 rw[e,mask64 (a / 2^52) 11 (by omega) (by decide) (by decide)]
 congr 1
 unfold Fm.sz
 omega
theorem frac (a:Nat) (ha:a<2^64):bits .and .u64 (a:Int) 4503599627370495=((Fm.sz a % 2^52:Nat):Int):=by
 rw[mask64 a 52 ha (by decide) (M:=4503599627370495) (by decide)]
 congr 1
 unfold Fm.sz
 omega
theorem cls_split (a:Nat):Fm.cls a=if Fm.sz a / 2^52=2047∧0<Fm.sz a % 2^52 then 4 else if Fm.sz a / 2^52=2047 then 3 else if 0<Fm.sz a / 2^52 then 2 else if 0<Fm.sz a % 2^52 then 1 else 0:=by
 have hi:Fm.inf=2047*2^52:=rfl
 have:=Fm.sz_lt a
 unfold Fm.cls
 repeat' split
 all_goals omega
theorem rclass_is (a:Nat) (w:World) (ha:a<2^64) {c:Int} (hC:Hid (c=(Fm.cls a:Nat))) :
  Calls Tryd.prog 82 #[.int .u64 a] w fun e w'=>e = .returned (.int .i64 c)∧w=w':=by
 have h1:=expo' a ha
 have h2:=frac a ha
 have HC:=Lib.hid (cls_split a)
 rw[hC.out]
 generalize Fm.cls a=x at HC ⊢
 generalize Fm.sz a / 2^52=E at h1 HC
 generalize Fm.sz a % 2^52=F at h2 HC
 go_enter Tryd.func82,Tryd.ntmps82
 go_wp2
 all_goals go_ret
 all_goals (refine ⟨ret_int ?_,rfl⟩;rw[HC.out];repeat' split)
 all_goals first|rfl|(simp at *;omega)
theorem rsize_at (a A:Nat) (w:World) (ha:a<2^64) (hA:Hid (Fm.sz a=A)) :
  Calls Tryd.prog 100 #[.int .u64 a] w fun e w'=>e = .returned (.int .u64 A)∧w=w':=by
 have h1:bits .and .u64 (a:Int) 9223372036854775807=(A:Int):=by rw[←hA.out];exact mask64 a 63 ha (by decide) (M:=9223372036854775807) (by decide)
 go_enter Tryd.func100,Tryd.ntmps100
 go_wp2
 go_ret
 exact ⟨rfl,rfl⟩
theorem rneg_at (a:Nat) (b:Bool) (w:World) (_ha:a<2^64) (hb:Hid (decide (Fm.sg a=1)=b)) :
  Calls Tryd.prog 101 #[.int .u64 a] w fun e w'=>e = .returned (.bool b)∧w=w':=by
 have h1:((a:Int) / 9223372036854775808 == 1)=b:=by
  rw[←hb.out,Bool.eq_iff_iff]
  unfold Fm.sg
  simp
  omega
 go_enter Tryd.func101,Tryd.ntmps101
 go_wp2
 all_goals go_ret
 all_goals exact ⟨by first|rfl|simp_all,rfl⟩
open Go.RowKit
theorem lessF_no1 {a b:Nat} (h:Fm.cls a=4):lessF a b=false:=by unfold lessF;simp[h]
theorem lessF_no2 {a b:Nat} (h:Fm.cls b=4):lessF a b=false:=by unfold lessF;simp[h]
theorem num_p {a A:Nat} {p:Bool} (hA:Fm.sz a=A) (hp:decide (Fm.sg a=1)=p):Fm.num a=if p=true then -(A:Int) else (A:Int):=by
 unfold Fm.num
 rw[hA,←hp]
 by_cases h:Fm.sg a=1
 ·rw[if_pos h,if_pos (decide_eq_true h)]
 ·rw[if_neg h,if_neg (by simpa using h)]
theorem lessF_yes {a b A B:Nat} {p q:Bool} (h1:Fm.cls a≠4) (h2:Fm.cls b≠4) (hA:Fm.sz a=A) (hB:Fm.sz b=B) (hp:decide (Fm.sg a=1)=p) (hq:decide (Fm.sg b=1)=q):lessF a b=decide ((if p=true then -(A:Int) else (A:Int))<(if q=true then -(B:Int) else (B:Int))):=by
 unfold lessF
 rw[num_p hA hp,num_p hB hq,decide_eq_true h1,decide_eq_true h2];rfl
theorem rless_any (a b:Nat) (w:World) (ha:a<2 ^ 64) (hb:b<2 ^ 64) {r:Bool} (hr:Hid (lessF a b=r)) :
  Calls Tryd.prog 83 #[.int .u64 a,.int .u64 b] w fun x w'=>x = .returned (.bool r)∧w=w':=by
 obtain ⟨c,HC⟩:∃ c:Int,Hid (c=(Fm.cls a:Nat)):=⟨_,Lib.hid rfl⟩
 obtain ⟨d,HD⟩:∃ d:Int,Hid (d=(Fm.cls b:Nat)):=⟨_,Lib.hid rfl⟩
 by_cases h1:Fm.cls a=4
 ·have e1:(c == 4)=true:=by rw[HC.out,h1];rfl
  have hr2:r=false:=by rw[←hr.out,lessF_no1 h1]
  subst hr2
  clear h1
  go_enter Tryd.func83,Tryd.ntmps83
  go_wp2_with fail
  refine (rclass_is a _ ha HC).mono ?_;rintro e w' ⟨rfl,rfl⟩
  go_wp2_with fail
  go_ret
  exact ⟨rfl,rfl⟩
 have e1:(c == 4)=false:=by rw[HC.out];simp;omega
 by_cases h2:Fm.cls b=4
 ·have e2:(d == 4)=true:=by rw[HD.out,h2];rfl
  have hr2:r=false:=by rw[←hr.out,lessF_no2 h2]
  subst hr2
  clear h1 h2
  go_enter Tryd.func83,Tryd.ntmps83
  go_wp2_with fail
  refine (rclass_is a _ ha HC).mono ?_;rintro e w' ⟨rfl,rfl⟩
  go_wp2_with fail
  refine (rclass_is b _ hb HD).mono ?_;rintro e w' ⟨rfl,rfl⟩
  go_wp2_with fail
  go_ret
  exact ⟨rfl,rfl⟩
 have e2:(d == 4)=false:=by rw[HD.out];simp;omega
 obtain ⟨A,HA⟩:∃ A,Hid (Fm.sz a=A):=⟨_,Lib.hid rfl⟩
 obtain ⟨B,HB⟩:∃ B,Hid (Fm.sz b=B):=⟨_,Lib.hid rfl⟩
 obtain ⟨p,HP⟩:∃ p,Hid (decide (Fm.sg a=1)=p):=⟨_,Lib.hid rfl⟩
 obtain ⟨q,HQ⟩:∃ q,Hid (decide (Fm.sg b=1)=q):=⟨_,Lib.hid rfl⟩
 have HR:Hid (decide ((if p=true then -(A:Int) else (A:Int))<(if q=true then -(B:Int) else (B:Int)))=r):=Lib.hid (by rw[←hr.out,lessF_yes h1 h2 HA.out HB.out HP.out HQ.out])
 have HSA:=Lib.hid (fun w=>rsize_at a A w ha HA)
 have HSB:=Lib.hid (fun w=>rsize_at b B w hb HB)
 have HNA:=Lib.hid (fun w=>rneg_at a p w ha HP)
 have HNB:=Lib.hid (fun w=>rneg_at b q w hb HQ)
 clear h1 h2 hr HA HB HP HQ
 go_enter Tryd.func83,Tryd.ntmps83
 go_wp2_with fail
 refine (rclass_is a _ ha HC).mono ?_;rintro e w' ⟨rfl,rfl⟩
 go_wp2_with fail
 refine (rclass_is b _ hb HD).mono ?_;rintro e w' ⟨rfl,rfl⟩
 go_wp2_with fail
 refine (HSA.out _).mono ?_;rintro e w' ⟨rfl,rfl⟩
 by_cases hA:A=0
 ·have dA:((A:Int) == 0)=true:=by simp[hA]
  have dA':(A == 0)=true:=by simp[hA]
  have HA0:=Lib.hid hA
  clear hA
  go_wp2_with fail
  refine (HSB.out _).mono ?_;rintro e w' ⟨rfl,rfl⟩
  by_cases hB:B=0
  ·have dB:((B:Int) == 0)=true:=by simp[hB]
   have dB':(B == 0)=true:=by simp[hB]
   have hr2:r=false:=by rw[←HR.out,HA0.out,hB];cases p<;>cases q<;>simp
   subst hr2
   clear hB
   go_wp2_with fail
   go_ret
   exact ⟨rfl,rfl⟩
  ·have dB:((B:Int) == 0)=false:=by simp[hB]
   have dB':(B == 0)=false:=by simp[hB]
   have HZ:Hid (0<A∨0<B):=Lib.hid (.inr (by omega))
   clear hB
   cases p with
   | true =>
    cases q with
    | true =>
     go_wp2_with fail
     refine (HNA.out _).mono ?_;rintro e w' ⟨rfl,rfl⟩
     go_wp2_with fail
     refine (HNB.out _).mono ?_;rintro e w' ⟨rfl,rfl⟩
     go_wp2_with fail
     refine (HNA.out _).mono ?_;rintro e w' ⟨rfl,rfl⟩
     have hr3:decide (B<A)=r:=by rw[←HR.out];exact decide_eq_decide.2 (by simp)
     go_wp2_with fail
     refine (HSA.out _).mono ?_;rintro e w' ⟨rfl,rfl⟩
     go_wp2_with fail
     refine (HSB.out _).mono ?_;rintro e w' ⟨rfl,rfl⟩
     go_wp2_with fail
     go_ret
     exact ⟨by first|rfl|exact ret_bool hr3|(refine ret_bool ?_;rw[←hr3];simp),rfl⟩
    | false =>
     have hr3:r=true:=by
      rw[←HR.out]
      have hz:=HZ.out
      exact decide_eq_true (by first|(simp;done)|(simp;omega))
     subst hr3
     go_wp2_with fail
     refine (HNA.out _).mono ?_;rintro e w' ⟨rfl,rfl⟩
     go_wp2_with fail
     refine (HNB.out _).mono ?_;rintro e w' ⟨rfl,rfl⟩
     go_wp2_with fail
     refine (HNA.out _).mono ?_;rintro e w' ⟨rfl,rfl⟩
     go_wp2_with fail
     go_ret
     exact ⟨rfl,rfl⟩
   | false =>
    cases q with
    | true =>
     have hr3:r=false:=by
      rw[←HR.out]
      have hz:=HZ.out
      exact decide_eq_false (by first|(simp;done)|(simp;omega))
     subst hr3
     go_wp2_with fail
     refine (HNA.out _).mono ?_;rintro e w' ⟨rfl,rfl⟩
     go_wp2_with fail
     refine (HNB.out _).mono ?_;rintro e w' ⟨rfl,rfl⟩
     go_wp2_with fail
     refine (HNA.out _).mono ?_;rintro e w' ⟨rfl,rfl⟩
     go_wp2_with fail
     go_ret
     exact ⟨rfl,rfl⟩
    | false =>
     go_wp2_with fail
     refine (HNA.out _).mono ?_;rintro e w' ⟨rfl,rfl⟩
     go_wp2_with fail
     refine (HNB.out _).mono ?_;rintro e w' ⟨rfl,rfl⟩
     go_wp2_with fail
     refine (HNA.out _).mono ?_;rintro e w' ⟨rfl,rfl⟩
     have hr3:decide (A<B)=r:=by rw[←HR.out];exact decide_eq_decide.2 (by simp)
     go_wp2_with fail
     refine (HSA.out _).mono ?_;rintro e w' ⟨rfl,rfl⟩
     go_wp2_with fail
     refine (HSB.out _).mono ?_;rintro e w' ⟨rfl,rfl⟩
     go_wp2_with fail
     go_ret
     exact ⟨by first|rfl|exact ret_bool hr3|(refine ret_bool ?_;rw[←hr3];simp),rfl⟩
 ·have dA:((A:Int) == 0)=false:=by simp[hA]
  have dA':(A == 0)=false:=by simp[hA]
  have HZ:Hid (0<A∨0<B):=Lib.hid (.inl (by omega))
  clear hA
  cases p with
  | true =>
   cases q with
   | true =>
    go_wp2_with fail
    refine (HNA.out _).mono ?_;rintro e w' ⟨rfl,rfl⟩
    go_wp2_with fail
    refine (HNB.out _).mono ?_;rintro e w' ⟨rfl,rfl⟩
    go_wp2_with fail
    refine (HNA.out _).mono ?_;rintro e w' ⟨rfl,rfl⟩
    have hr3:decide (B<A)=r:=by rw[←HR.out];exact decide_eq_decide.2 (by simp)
    go_wp2_with fail
    refine (HSA.out _).mono ?_;rintro e w' ⟨rfl,rfl⟩
    go_wp2_with fail
    refine (HSB.out _).mono ?_;rintro e w' ⟨rfl,rfl⟩
    go_wp2_with fail
    go_ret
    exact ⟨by first|rfl|exact ret_bool hr3|(refine ret_bool ?_;rw[←hr3];simp),rfl⟩
   | false =>
    have hr3:r=true:=by
     rw[←HR.out]
     have hz:=HZ.out
     exact decide_eq_true (by first|(simp;done)|(simp;omega))
    subst hr3
    go_wp2_with fail
    refine (HNA.out _).mono ?_;rintro e w' ⟨rfl,rfl⟩
    go_wp2_with fail
    refine (HNB.out _).mono ?_;rintro e w' ⟨rfl,rfl⟩
    go_wp2_with fail
    refine (HNA.out _).mono ?_;rintro e w' ⟨rfl,rfl⟩
    go_wp2_with fail
    go_ret
    exact ⟨rfl,rfl⟩
  | false =>
   cases q with
   | true =>
    have hr3:r=false:=by
     rw[←HR.out]
     have hz:=HZ.out
     exact decide_eq_false (by first|(simp;done)|(simp;omega))
    subst hr3
    go_wp2_with fail
    refine (HNA.out _).mono ?_;rintro e w' ⟨rfl,rfl⟩
    go_wp2_with fail
    refine (HNB.out _).mono ?_;rintro e w' ⟨rfl,rfl⟩
    go_wp2_with fail
    refine (HNA.out _).mono ?_;rintro e w' ⟨rfl,rfl⟩
    go_wp2_with fail
    go_ret
    exact ⟨rfl,rfl⟩
   | false =>
    go_wp2_with fail
    refine (HNA.out _).mono ?_;rintro e w' ⟨rfl,rfl⟩
    go_wp2_with fail
    refine (HNB.out _).mono ?_;rintro e w' ⟨rfl,rfl⟩
    go_wp2_with fail
    refine (HNA.out _).mono ?_;rintro e w' ⟨rfl,rfl⟩
    have hr3:decide (A<B)=r:=by rw[←HR.out];exact decide_eq_decide.2 (by simp)
    go_wp2_with fail
    refine (HSA.out _).mono ?_;rintro e w' ⟨rfl,rfl⟩
    go_wp2_with fail
    refine (HSB.out _).mono ?_;rintro e w' ⟨rfl,rfl⟩
    go_wp2_with fail
    go_ret
    exact ⟨by first|rfl|exact ret_bool hr3|(refine ret_bool ?_;rw[←hr3];simp),rfl⟩
theorem upside_any (ph qh:Bool) (pn qn:Nat) (w:World) (hp:pn<2 ^ 64) (hq:qn<2 ^ 64) {r:Bool} (hr:Hid (apartB ph pn qh qn=r)) :
  Calls Tryd.prog 53 #[.agg #[.bool ph,.int .u64 (pn:Int)],.agg #[.bool qh,.int .u64 (qn:Int)]] w fun e w'=>e = .returned (.bool r)∧Below w.heap.size w w':=by
 have HW:Hid (Below w.heap.size w ((w.alloc (.cells #[.bool ph,.int .u64 (pn:Int)] 42)).alloc (.cells #[.bool qh,.int .u64 (qn:Int)] 42))):=Lib.hid (((Below.refl _ _).alloc (Nat.le_refl _) _).alloc (by simp) _)
 cases ph with
 | false =>
  have hr2:r=false:=by rw[←hr.out];rfl
  subst hr2
  clear hr
  go_enter Tryd.func53,Tryd.ntmps53
  go_wp2_with fail
  go_ret
  exact ⟨rfl,HW.out⟩
 | true =>
  cases qh with
  | false =>
   have hr2:r=false:=by rw[←hr.out];rfl
   subst hr2
   clear hr
   go_enter Tryd.func53,Tryd.ntmps53
   go_wp2_with fail
   go_ret
   exact ⟨rfl,HW.out⟩
  | true =>
   have HR:Hid (lessF qn pn=r):=Lib.hid (by rw[←hr.out];rfl)
   clear hr
   go_enter Tryd.func53,Tryd.ntmps53
   go_wp2_with fail
   refine (rless_any qn pn _ hq hp HR).mono ?_;rintro e w' ⟨rfl,rfl⟩
   cases r with
   | true =>
    go_wp2_with fail
    go_ret
    exact ⟨rfl,HW.out⟩
   | false =>
    go_wp2_with fail
    go_ret
    exact ⟨rfl,HW.out⟩
theorem rtotal_any (n:Nat) (l:List Nat) (ao:Option Addr) (cap:Nat) (w:World) (hn:n<18446744073709551616) (hlen:l.length≤9223372036854775806) (h:Hid (Nats .u64 w ao l)) {r:Bool} (hr:Hid (decide (l.sum=n)=r)) :
  Calls Tryd.prog 51 #[.int .u64 (n:Int),.slice ao l.length cap] w fun e w'=>e = .returned (.bool r)∧w=w':=by
 go_enter Tryd.func51,Tryd.ntmps51
 go_wp2_with fail
 go_loopg [0,5] l.length (fun k c i wr=>∃ (m cm:Nat),c = .int .u64 (cm:Int)∧i = .int .i64 (m:Int)∧m+k=l.length∧w=wr∧Hid (cm+(l.take m).sum=n))
 case atStart=>exact ⟨0,n,rfl,rfl,by omega,rfl,Lib.hid (by simp)⟩
 case round =>
  obtain ⟨m,cm,rfl,rfl,hm,rfl,HM⟩:=hrel
  have HMM:=Lib.hid hm
  clear hm
  by_cases hml:m<l.length
  ·obtain ⟨g2,off2,x,HX,rfl,hbl,hc2⟩:=h.out.at (i:=m) hml
   have HS:Hid ((l.take (m+1)).sum=(l.take m).sum+x):=Lib.hid (by rw[sum_take hml,HX.out])
   by_cases hxc:cm<x
   ·have d1:decide (cm<x)=true:=decide_eq_true hxc
    have hr2:r=false:=by
     rw[←hr.out]
     refine decide_eq_false fun e=>?_
     have h1:=HM.out
     have h2:=HS.out
     have h4:=sum_take_le l (m+1)
     omega
    subst hr2
    clear hxc
    go_wp2_with fail
    go_ret
    exact ⟨rfl,rfl⟩
   ·have d1:decide (cm<x)=false:=decide_eq_false hxc
    have q1:IntKind.u64.wrap ((cm:Int) - (x:Int))=((cm - x:Nat):Int):=by rw[IntWalk.u64_in _ (by have:=HM.out;omega)];omega
    have q2:IntKind.i64.wrap ((m:Int)+1)=(m:Int)+1:=IntWalk.i64_in _ (by omega)
    have HXC:=Lib.hid hxc
    clear hxc
    go_wp2_with fail
    have hm:=HMM.out
    go_roundg (gk - 1)
    case measure=>omega
    case rel=>exact ⟨m+1,cm - x,rfl,by simp,by omega,rfl,Lib.hid (by have h1:=HM.out;have h2:=HS.out;have h3:=HXC.out;omega)⟩
  ·have hme:m=l.length:=by have:=HMM.out;omega
   have hr2:((cm:Int) == 0)=r:=by
    have h1:=HM.out
    rw[hme,List.take_length] at h1
    rw[←hr.out]
    by_cases h0:cm=0
    ·subst h0;simp;omega
    ·rw[decide_eq_false (by omega)];simp[h0]
   clear hme
   go_wp2_with fail
   go_ret
   exact ⟨by first|rfl|exact ret_bool hr2,rfl⟩
end Go.Proofs.YtcblkndiclkacaaDoor
