/-
  check.point, apart, beyond.
-/
import Derived.Test.YtmlghmjjlpioeaaCkBase
import Derived.Test.YtmlghmjjlpioeaaCkTot
set_option maxRecDepth 1000000
set_option maxHeartbeats 16000000
namespace Go.Proofs.Ytmlghmjjlpioeaa
open Go.RowKit
open Lib (hid)
def pointR (s t:Nat)(b:Bool):Nat:=if t=0 then 4 else if t<s then 5 else if b=true then 6 else 0
theorem point_any (s t:Nat)(l:List KV)(lo:Option Addr)(lc:Nat)(P:Nat→Prop)(w:World)(hl:l.length≤9223372036854775806)(hlim:ksfit l)(ha:KRels w P l lo 0){r:Nat}(hr:Hid (pointR s t (dup l)=r)) :
  Calls Try.prog 32 #[.int .u64 (s:Int),.int .u64 (t:Int),.slice lo l.length lc] w fun e w'=>e = .returned (.int .i64 (r:Int))∧Below w.heap.size w w':=by
 by_cases h0:t=0
 ·have hr2:r=4:=by rw[←hr.out];exact if_pos h0
  subst hr2
  subst h0
  clear hr
  go_enter Try.func32,Try.ntmps32
  go_wp2_with fail
  go_ret
  exact ⟨rfl,Below.refl _ _⟩
 ·have d0:((t:Int) == 0)=false:=by simp[h0]
  have d00:(t == 0)=false:=by simp[h0]
  by_cases h1:t<s
  ·have hr2:r=5:=by rw[←hr.out];unfold pointR;rw[if_neg h0,if_pos h1]
   subst hr2
   have d1:decide (t<s)=true:=decide_eq_true h1
   clear hr h0
   go_enter Try.func32,Try.ntmps32
   go_wp2_with fail
   go_ret
   exact ⟨rfl,Below.refl _ _⟩
  ·obtain ⟨b,HB⟩:∃ b,Hid (dup l=b):=⟨_,hid rfl⟩
   have hr2:r=if b=true then 6 else 0:=by rw[←hr.out];unfold pointR;rw[if_neg h0,if_neg h1,HB.out]
   subst hr2
   have d1:decide (t<s)=false:=decide_eq_false h1
   have HT:=hid (twice_any l lo lc P w hl hlim ha HB)
   clear hr h0 ha hlim h1
   go_enter Try.func32,Try.ntmps32
   go_wp2_with fail
   refine HT.out.mono ?_;rintro e w' ⟨rfl,hb⟩
   have HBW:=hid hb
   clear hb
   cases b with
   | true =>
    go_wp2_with fail
    go_ret
    exact ⟨rfl,HBW.out⟩
   | false =>
    go_wp2_with fail
    go_ret
    exact ⟨rfl,HBW.out⟩
def apartB (ph:Bool)(pn:Nat)(qh:Bool)(qn:Nat):Bool:=ph&&(qh&&lessF qn pn)
theorem apart_any (ph qh:Bool)(pn qn:Nat)(w:World)(hp:pn<2 ^ 64)(hq:qn<2 ^ 64){r:Bool}(hr:Hid (apartB ph pn qh qn=r)) :
  Calls Try.prog 36 #[.agg #[.bool ph,.int .u64 (pn:Int)],.agg #[.bool qh,.int .u64 (qn:Int)]] w fun e w'=>e = .returned (.bool r)∧Below w.heap.size w w':=by
 have HW:Hid (Below w.heap.size w ((w.alloc (.cells #[.bool ph,.int .u64 (pn:Int)] 29)).alloc (.cells #[.bool qh,.int .u64 (qn:Int)] 29))):=hid (((Below.refl _ _).alloc (Nat.le_refl _) _).alloc (by simp) _)
 cases ph with
 | false =>
  have hr2:r=false:=by rw[←hr.out];rfl
  subst hr2
  clear hr
  go_enter Try.func36,Try.ntmps36
  go_wp2_with fail
  go_ret
  exact ⟨rfl,HW.out⟩
 | true =>
  cases qh with
  | false =>
   have hr2:r=false:=by rw[←hr.out];rfl
   subst hr2
   clear hr
   go_enter Try.func36,Try.ntmps36
   go_wp2_with fail
   go_ret
   exact ⟨rfl,HW.out⟩
  | true =>
   have HR:Hid (lessF qn pn=r):=hid (by rw[←hr.out];rfl)
   clear hr
   go_enter Try.func36,Try.ntmps36
   go_wp2_with fail
   refine (less_any qn pn _ hq hp HR).mono ?_;rintro e w' ⟨rfl,rfl⟩
   cases r with
   | true =>
    go_wp2_with fail
    go_ret
    exact ⟨rfl,HW.out⟩
   | false =>
    go_wp2_with fail
    go_ret
    exact ⟨rfl,HW.out⟩
def beyondB (off:Int)(n:Nat):Bool:=decide (2147483647<off+(n:Int) - 1)
theorem beyond_any (off:Int)(n:Nat)(bo:Option Addr)(cap:Nat)(U:ByteArray)(w:World)(ho:-2147483648≤off∧off≤2147483647)(hn:n≤1000000){r:Bool}(hr:Hid (beyondB off n=r)) :
  Calls Try.prog 40 #[.agg #[.int .i32 off,.slice bo n cap,.string U]] w fun e w'=>e = .returned (.bool r)∧Below w.heap.size w w':=by
 have q1:IntKind.i64.wrap off=off:=IntWalk.i64_in _ (by omega)
 have q2:IntKind.i64.wrap (off+(n:Int))=off+(n:Int):=IntWalk.i64_in _ (by omega)
 have q3:IntKind.i64.wrap (off+(n:Int) - 1)=off+(n:Int) - 1:=IntWalk.i64_in _ (by omega)
 have HW:Hid (Below w.heap.size w (w.alloc (.cells #[.int .i32 off,.slice bo n cap,.string U] 34))):=hid ((Below.refl _ _).alloc (Nat.le_refl _) _)
 have hr2:decide (2147483647<off+(n:Int) - 1)=r:=hr.out
 clear hr
 go_enter Try.func40,Try.ntmps40
 go_wp2_with fail
 go_ret
 exact ⟨by first|rfl|exact ret_bool hr2,HW.out⟩
end Go.Proofs.Ytmlghmjjlpioeaa
