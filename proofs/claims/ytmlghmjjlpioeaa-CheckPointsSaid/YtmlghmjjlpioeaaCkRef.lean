/-
  hygref6.Less, hygref18.upside, far, total.
-/
import Derived.Test.YtmlghmjjlpioeaaCkSum
import Derived.Test.YtmlghmjjlpioeaaFaddRefA
set_option maxRecDepth 1000000
set_option maxHeartbeats 16000000
namespace Go.Proofs.Ytmlghmjjlpioeaa
open Go.RowKit
open Lib (hid)
theorem lessF_no1 {a b:Nat}(h:Fm.cls a=4):lessF a b=false:=by unfold lessF;simp[h]
theorem lessF_no2 {a b:Nat}(h:Fm.cls b=4):lessF a b=false:=by unfold lessF;simp[h]
theorem num_p {a A:Nat}{p:Bool}(hA:Fm.sz a=A)(hp:decide (Fm.sg a=1)=p):Fm.num a=if p=true then -(A:Int) else (A:Int):=by
 unfold Fm.num
 rw[hA,←hp]
 by_cases h:Fm.sg a=1
 ·rw[if_pos h,if_pos (decide_eq_true h)]
 ·rw[if_neg h,if_neg (by simpa using h)]
theorem lessF_yes {a b A B:Nat}{p q:Bool}(h1:Fm.cls a≠4)(h2:Fm.cls b≠4)(hA:Fm.sz a=A)(hB:Fm.sz b=B)(hp:decide (Fm.sg a=1)=p)(hq:decide (Fm.sg b=1)=q):lessF a b=decide ((if p=true then -(A:Int) else (A:Int))<(if q=true then -(B:Int) else (B:Int))):=by
 unfold lessF
 rw[num_p hA hp,num_p hB hq,decide_eq_true h1,decide_eq_true h2];rfl
theorem rless_any (a b:Nat)(w:World)(ha:a<2 ^ 64)(hb:b<2 ^ 64){r:Bool}(hr:Hid (lessF a b=r)) :
  Calls Try.prog 45 #[.int .u64 a,.int .u64 b] w fun x w'=>x = .returned (.bool r)∧w=w':=by
 obtain ⟨c,HC⟩:∃ c:Int,Hid (c=(Fm.cls a:Nat)):=⟨_,hid rfl⟩
 obtain ⟨d,HD⟩:∃ d:Int,Hid (d=(Fm.cls b:Nat)):=⟨_,hid rfl⟩
 by_cases h1:Fm.cls a=4
 ·have e1:(c == 4)=true:=by rw[HC.out,h1];rfl
  have hr2:r=false:=by rw[←hr.out,lessF_no1 h1]
  subst hr2
  clear h1
  go_enter Try.func45,Try.ntmps45
  go_wp2_with fail
  refine (rclass_is a _ ha HC).mono ?_;rintro e w' ⟨rfl,rfl⟩
  go_wp2_with fail
  go_ret
  exact ⟨rfl,rfl⟩
 have e1:(c == 4)=false:=by rw[HC.out];simp;omega
 by_cases h2:Fm.cls b=4
 ·have e2:(d == 4)=true:=by rw[HD.out,h2];rfl
  have hr2:r=false:=by rw[←hr.out,lessF_no2 h2]
  subst hr2
  clear h1 h2
  go_enter Try.func45,Try.ntmps45
  go_wp2_with fail
  refine (rclass_is a _ ha HC).mono ?_;rintro e w' ⟨rfl,rfl⟩
  go_wp2_with fail
  refine (rclass_is b _ hb HD).mono ?_;rintro e w' ⟨rfl,rfl⟩
  go_wp2_with fail
  go_ret
  exact ⟨rfl,rfl⟩
 have e2:(d == 4)=false:=by rw[HD.out];simp;omega
 obtain ⟨A,HA⟩:∃ A,Hid (Fm.sz a=A):=⟨_,hid rfl⟩
 obtain ⟨B,HB⟩:∃ B,Hid (Fm.sz b=B):=⟨_,hid rfl⟩
 obtain ⟨p,HP⟩:∃ p,Hid (decide (Fm.sg a=1)=p):=⟨_,hid rfl⟩
 obtain ⟨q,HQ⟩:∃ q,Hid (decide (Fm.sg b=1)=q):=⟨_,hid rfl⟩
 have HR:Hid (decide ((if p=true then -(A:Int) else (A:Int))<(if q=true then -(B:Int) else (B:Int)))=r):=hid (by rw[←hr.out,lessF_yes h1 h2 HA.out HB.out HP.out HQ.out])
 have HSA:=hid (fun w=>rsize_at a A w ha HA)
 have HSB:=hid (fun w=>rsize_at b B w hb HB)
 have HNA:=hid (fun w=>rneg_at a p w ha HP)
 have HNB:=hid (fun w=>rneg_at b q w hb HQ)
 clear h1 h2 hr HA HB HP HQ
 go_enter Try.func45,Try.ntmps45
 go_wp2_with fail
 refine (rclass_is a _ ha HC).mono ?_;rintro e w' ⟨rfl,rfl⟩
 go_wp2_with fail
 refine (rclass_is b _ hb HD).mono ?_;rintro e w' ⟨rfl,rfl⟩
 go_wp2_with fail
 refine (HSA.out _).mono ?_;rintro e w' ⟨rfl,rfl⟩
 by_cases hA:A=0
 ·have dA:((A:Int) == 0)=true:=by simp[hA]
  have dA':(A == 0)=true:=by simp[hA]
  have HA0:=hid hA
  clear hA
  go_wp2_with fail
  refine (HSB.out _).mono ?_;rintro e w' ⟨rfl,rfl⟩
  by_cases hB:B=0
  ·have dB:((B:Int) == 0)=true:=by simp[hB]
   have dB':(B == 0)=true:=by simp[hB]
   have hr2:r=false:=by rw[←HR.out,HA0.out,hB];cases p<;>cases q<;>simp
   subst hr2
   clear hB
   go_wp2_with fail
   go_ret
   exact ⟨rfl,rfl⟩
  ·have dB:((B:Int) == 0)=false:=by simp[hB]
   have dB':(B == 0)=false:=by simp[hB]
   have HZ:Hid (0<A∨0<B):=hid (.inr (by omega))
   clear hB
   cases p with
   | true =>
    cases q with
    | true =>
     go_wp2_with fail
     refine (HNA.out _).mono ?_;rintro e w' ⟨rfl,rfl⟩
     go_wp2_with fail
     refine (HNB.out _).mono ?_;rintro e w' ⟨rfl,rfl⟩
     go_wp2_with fail
     refine (HNA.out _).mono ?_;rintro e w' ⟨rfl,rfl⟩
     have hr3:decide (B<A)=r:=by rw[←HR.out];exact decide_eq_decide.2 (by simp)
     go_wp2_with fail
     refine (HSA.out _).mono ?_;rintro e w' ⟨rfl,rfl⟩
     go_wp2_with fail
     refine (HSB.out _).mono ?_;rintro e w' ⟨rfl,rfl⟩
     go_wp2_with fail
     go_ret
     exact ⟨by first|rfl|exact ret_bool hr3|(refine ret_bool ?_;rw[←hr3];simp),rfl⟩
    | false =>
     have hr3:r=true:=by
      rw[←HR.out]
      have hz:=HZ.out
      exact decide_eq_true (by first|(simp;done)|(simp;omega))
     subst hr3
     go_wp2_with fail
     refine (HNA.out _).mono ?_;rintro e w' ⟨rfl,rfl⟩
     go_wp2_with fail
     refine (HNB.out _).mono ?_;rintro e w' ⟨rfl,rfl⟩
     go_wp2_with fail
     refine (HNA.out _).mono ?_;rintro e w' ⟨rfl,rfl⟩
     go_wp2_with fail
     go_ret
     exact ⟨rfl,rfl⟩
   | false =>
    cases q with
    | true =>
     have hr3:r=false:=by
      rw[←HR.out]
      have hz:=HZ.out
      exact decide_eq_false (by first|(simp;done)|(simp;omega))
     subst hr3
     go_wp2_with fail
     refine (HNA.out _).mono ?_;rintro e w' ⟨rfl,rfl⟩
     go_wp2_with fail
     refine (HNB.out _).mono ?_;rintro e w' ⟨rfl,rfl⟩
     go_wp2_with fail
     refine (HNA.out _).mono ?_;rintro e w' ⟨rfl,rfl⟩
     go_wp2_with fail
     go_ret
     exact ⟨rfl,rfl⟩
    | false =>
     go_wp2_with fail
     refine (HNA.out _).mono ?_;rintro e w' ⟨rfl,rfl⟩
     go_wp2_with fail
     refine (HNB.out _).mono ?_;rintro e w' ⟨rfl,rfl⟩
     go_wp2_with fail
     refine (HNA.out _).mono ?_;rintro e w' ⟨rfl,rfl⟩
     have hr3:decide (A<B)=r:=by rw[←HR.out];exact decide_eq_decide.2 (by simp)
     go_wp2_with fail
     refine (HSA.out _).mono ?_;rintro e w' ⟨rfl,rfl⟩
     go_wp2_with fail
     refine (HSB.out _).mono ?_;rintro e w' ⟨rfl,rfl⟩
     go_wp2_with fail
     go_ret
     exact ⟨by first|rfl|exact ret_bool hr3|(refine ret_bool ?_;rw[←hr3];simp),rfl⟩
 ·have dA:((A:Int) == 0)=false:=by simp[hA]
  have dA':(A == 0)=false:=by simp[hA]
  have HZ:Hid (0<A∨0<B):=hid (.inl (by omega))
  clear hA
  cases p with
  | true =>
   cases q with
   | true =>
    go_wp2_with fail
    refine (HNA.out _).mono ?_;rintro e w' ⟨rfl,rfl⟩
    go_wp2_with fail
    refine (HNB.out _).mono ?_;rintro e w' ⟨rfl,rfl⟩
    go_wp2_with fail
    refine (HNA.out _).mono ?_;rintro e w' ⟨rfl,rfl⟩
    have hr3:decide (B<A)=r:=by rw[←HR.out];exact decide_eq_decide.2 (by simp)
    go_wp2_with fail
    refine (HSA.out _).mono ?_;rintro e w' ⟨rfl,rfl⟩
    go_wp2_with fail
    refine (HSB.out _).mono ?_;rintro e w' ⟨rfl,rfl⟩
    go_wp2_with fail
    go_ret
    exact ⟨by first|rfl|exact ret_bool hr3|(refine ret_bool ?_;rw[←hr3];simp),rfl⟩
   | false =>
    have hr3:r=true:=by
     rw[←HR.out]
     have hz:=HZ.out
     exact decide_eq_true (by first|(simp;done)|(simp;omega))
    subst hr3
    go_wp2_with fail
    refine (HNA.out _).mono ?_;rintro e w' ⟨rfl,rfl⟩
    go_wp2_with fail
    refine (HNB.out _).mono ?_;rintro e w' ⟨rfl,rfl⟩
    go_wp2_with fail
    refine (HNA.out _).mono ?_;rintro e w' ⟨rfl,rfl⟩
    go_wp2_with fail
    go_ret
    exact ⟨rfl,rfl⟩
  | false =>
   cases q with
   | true =>
    have hr3:r=false:=by
     rw[←HR.out]
     have hz:=HZ.out
     exact decide_eq_false (by first|(simp;done)|(simp;omega))
    subst hr3
    go_wp2_with fail
    refine (HNA.out _).mono ?_;rintro e w' ⟨rfl,rfl⟩
    go_wp2_with fail
    refine (HNB.out _).mono ?_;rintro e w' ⟨rfl,rfl⟩
    go_wp2_with fail
    refine (HNA.out _).mono ?_;rintro e w' ⟨rfl,rfl⟩
    go_wp2_with fail
    go_ret
    exact ⟨rfl,rfl⟩
   | false =>
    go_wp2_with fail
    refine (HNA.out _).mono ?_;rintro e w' ⟨rfl,rfl⟩
    go_wp2_with fail
    refine (HNB.out _).mono ?_;rintro e w' ⟨rfl,rfl⟩
    go_wp2_with fail
    refine (HNA.out _).mono ?_;rintro e w' ⟨rfl,rfl⟩
    have hr3:decide (A<B)=r:=by rw[←HR.out];exact decide_eq_decide.2 (by simp)
    go_wp2_with fail
    refine (HSA.out _).mono ?_;rintro e w' ⟨rfl,rfl⟩
    go_wp2_with fail
    refine (HSB.out _).mono ?_;rintro e w' ⟨rfl,rfl⟩
    go_wp2_with fail
    go_ret
    exact ⟨by first|rfl|exact ret_bool hr3|(refine ret_bool ?_;rw[←hr3];simp),rfl⟩
theorem upside_any (ph qh:Bool)(pn qn:Nat)(w:World)(hp:pn<2 ^ 64)(hq:qn<2 ^ 64){r:Bool}(hr:Hid (apartB ph pn qh qn=r)) :
  Calls Try.prog 39 #[.agg #[.bool ph,.int .u64 (pn:Int)],.agg #[.bool qh,.int .u64 (qn:Int)]] w fun e w'=>e = .returned (.bool r)∧Below w.heap.size w w':=by
 have HW:Hid (Below w.heap.size w ((w.alloc (.cells #[.bool ph,.int .u64 (pn:Int)] 29)).alloc (.cells #[.bool qh,.int .u64 (qn:Int)] 29))):=hid (((Below.refl _ _).alloc (Nat.le_refl _) _).alloc (by simp) _)
 cases ph with
 | false =>
  have hr2:r=false:=by rw[←hr.out];rfl
  subst hr2
  clear hr
  go_enter Try.func39,Try.ntmps39
  go_wp2_with fail
  go_ret
  exact ⟨rfl,HW.out⟩
 | true =>
  cases qh with
  | false =>
   have hr2:r=false:=by rw[←hr.out];rfl
   subst hr2
   clear hr
   go_enter Try.func39,Try.ntmps39
   go_wp2_with fail
   go_ret
   exact ⟨rfl,HW.out⟩
  | true =>
   have HR:Hid (lessF qn pn=r):=hid (by rw[←hr.out];rfl)
   clear hr
   go_enter Try.func39,Try.ntmps39
   go_wp2_with fail
   refine (rless_any qn pn _ hq hp HR).mono ?_;rintro e w' ⟨rfl,rfl⟩
   cases r with
   | true =>
    go_wp2_with fail
    go_ret
    exact ⟨rfl,HW.out⟩
   | false =>
    go_wp2_with fail
    go_ret
    exact ⟨rfl,HW.out⟩
theorem far_any (off:Int)(n:Nat)(bo:Option Addr)(cap:Nat)(U:ByteArray)(w:World)(ho:-2147483648≤off∧off≤2147483647)(hn:n≤1000000){r:Bool}(hr:Hid (beyondB off n=r)) :
  Calls Try.prog 43 #[.agg #[.int .i32 off,.slice bo n cap,.string U]] w fun e w'=>e = .returned (.bool r)∧Below w.heap.size w w':=by
 have q1:IntKind.i64.wrap off=off:=IntWalk.i64_in _ (by omega)
 have q2:IntKind.i64.wrap (off+(n:Int))=off+(n:Int):=IntWalk.i64_in _ (by omega)
 have q3:IntKind.i64.wrap (off+(n:Int) - 1)=off+(n:Int) - 1:=IntWalk.i64_in _ (by omega)
 have HW:Hid (Below w.heap.size w (w.alloc (.cells #[.int .i32 off,.slice bo n cap,.string U] 34))):=hid ((Below.refl _ _).alloc (Nat.le_refl _) _)
 have hr2:decide (2147483647<off+(n:Int) - 1)=r:=hr.out
 clear hr
 go_enter Try.func43,Try.ntmps43
 go_wp2_with fail
 go_ret
 exact ⟨by first|rfl|exact ret_bool hr2,HW.out⟩
theorem rtotal_any (n:Nat)(l:List Nat)(ao:Option Addr)(cap:Nat)(w:World)(hn:n<18446744073709551616)(hlen:l.length≤9223372036854775806)(h:Hid (Nats .u64 w ao l)){r:Bool}(hr:Hid (decide (l.sum=n)=r)) :
  Calls Try.prog 37 #[.int .u64 (n:Int),.slice ao l.length cap] w fun e w'=>e = .returned (.bool r)∧w=w':=by
 go_enter Try.func37,Try.ntmps37
 go_wp2_with fail
 go_loopg [0,5] l.length (fun k c i wr=>∃ (m cm:Nat),c = .int .u64 (cm:Int)∧i = .int .i64 (m:Int)∧m+k=l.length∧w=wr∧Hid (cm+(l.take m).sum=n))
 case atStart=>exact ⟨0,n,rfl,rfl,by omega,rfl,hid (by simp)⟩
 case round =>
  obtain ⟨m,cm,rfl,rfl,hm,rfl,HM⟩:=hrel
  have HMM:=hid hm
  clear hm
  by_cases hml:m<l.length
  ·obtain ⟨g2,off2,x,HX,rfl,hbl,hc2⟩:=h.out.at (i:=m) hml
   have HS:Hid ((l.take (m+1)).sum=(l.take m).sum+x):=hid (by rw[sum_take hml,HX.out])
   by_cases hxc:cm<x
   ·have d1:decide (cm<x)=true:=decide_eq_true hxc
    have hr2:r=false:=by
     rw[←hr.out]
     refine decide_eq_false fun e=>?_
     have h1:=HM.out
     have h2:=HS.out
     have h4:=sum_take_le l (m+1)
     omega
    subst hr2
    clear hxc
    go_wp2_with fail
    go_ret
    exact ⟨rfl,rfl⟩
   ·have d1:decide (cm<x)=false:=decide_eq_false hxc
    have q1:IntKind.u64.wrap ((cm:Int) - (x:Int))=((cm - x:Nat):Int):=by rw[IntWalk.u64_in _ (by have:=HM.out;omega)];omega
    have q2:IntKind.i64.wrap ((m:Int)+1)=(m:Int)+1:=IntWalk.i64_in _ (by omega)
    have HXC:=hid hxc
    clear hxc
    go_wp2_with fail
    have hm:=HMM.out
    go_roundg (gk - 1)
    case measure=>omega
    case rel=>exact ⟨m+1,cm - x,rfl,by simp,by omega,rfl,hid (by have h1:=HM.out;have h2:=HS.out;have h3:=HXC.out;omega)⟩
  ·have hme:m=l.length:=by have:=HMM.out;omega
   have hr2:((cm:Int) == 0)=r:=by
    have h1:=HM.out
    rw[hme,List.take_length] at h1
    rw[←hr.out]
    by_cases h0:cm=0
    ·subst h0;simp;omega
    ·rw[decide_eq_false (by omega)];simp[h0]
   clear hme
   go_wp2_with fail
   go_ret
   exact ⟨by first|rfl|exact ret_bool hr2,rfl⟩
end Go.Proofs.Ytmlghmjjlpioeaa
