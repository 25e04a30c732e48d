/-
  CkNum, CkFirst
-/
import Derived.Test.YtmlghmjjlpioeaaCkPt
import Derived.Test.YtmlghmjjlpioeaaNuBack
set_option maxRecDepth 1000000
set_option maxHeartbeats 16000000
namespace Go.Proofs.Ytmlghmjjlpioeaa
open Go.RowKit
open Lib (hid)
def numR:Nu→Nat
 | ((a,(t,(((k,_),_),(l,f)))),_)=>if pointR a t (dup l)=0 then (if k=0 then (if (bits .and .u32 (f:Int) 1 == 0)=true then 7 else 0) else 0) else pointR a t (dup l)
theorem num_any (x:Nu)(cs:List Value)(P:Nat→Prop)(w:World)(ha:nu_arg x)(hrel:nuCel.R w P x cs)(hsm:x.1.2.2.2.1.length≤1000000){r:Nat}(hr:Hid (numR x=r)) :
  Calls Try.prog 11 #[.agg cs.toArray] w fun e w'=>e = .returned (.int .i64 (r:Int))∧Below w.heap.size w w':=by
 obtain ⟨⟨a,⟨t,⟨⟨⟨k,n⟩,es⟩,⟨l,f⟩⟩⟩⟩,u⟩:=x
 obtain ⟨lo,lc,eo,ec,rfl,hk,_⟩:=hrel
 obtain ⟨_,_,_,_,_,h11,_,_,_,_⟩:=ha
 have hsm:l.length≤1000000:=hsm
 dsimp only[strV]
 obtain ⟨XU,hXU⟩:∃ X:ByteArray,(⟨u.toArray⟩:ByteArray)=X:=⟨_,rfl⟩
 rw[hXU]
 clear hXU
 obtain ⟨p,HP⟩:∃ p,Hid (pointR a t (dup l)=p):=⟨_,hid rfl⟩
 obtain ⟨fb,HFB⟩:∃ fb,Hid ((bits .and .u32 (f:Int) 1 == 0)=fb):=⟨_,hid rfl⟩
 have HR:Hid ((if p=0 then (if k=0 then (if fb=true then 7 else 0) else 0) else p)=r):=hid (by rw[←hr.out,←HP.out,←HFB.out];rfl)
 clear hr
 have HK:=hid hk
 have HL9:=hid h11
 clear hk h11
 obtain ⟨bx,hbx⟩:∃ b,w.heap.size=b:=⟨_,rfl⟩
 obtain ⟨w1,hw1⟩:∃ W,w.alloc (.cells #[.slice lo l.length lc,.int .u64 (a:Int),.int .u64 (t:Int),.int .i64 k,.int .u64 (n:Int),.slice eo es.length ec,.int .u32 (f:Int),.string XU] 27)=W:=⟨_,rfl⟩
 have HBw1:Hid (Below w.heap.size w w1):=hid (by rw[←hw1];exact below_new _ _)
 have HXw1:Hid (w1.heap[bx]? = some (.cells #[.slice lo l.length lc,.int .u64 (a:Int),.int .u64 (t:Int),.int .i64 k,.int .u64 (n:Int),.slice eo es.length ec,.int .u32 (f:Int),.string XU] 27 (0,0))):=hid (by rw[←hw1,←hbx];exact heap_alloc_new w _)
 have HW:=hid hw1
 have HBX:=hid hbx
 clear hw1 hbx
 go_enter Try.func11,Try.ntmps11
 go_upto_region 1 with fail
 rw[HW.out,HBX.out]
 have hc0:w1.cell? ⟨bx,0,none⟩=some (.slice lo l.length lc):=row_cell HXw1.out (j:=0) rfl
 have hc1:w1.cell? ⟨bx,1,none⟩=some (.int .u64 (a:Int)):=row_cell HXw1.out (j:=1) rfl
 have hc2:w1.cell? ⟨bx,2,none⟩=some (.int .u64 (t:Int)):=row_cell HXw1.out (j:=2) rfl
 go_wp2_with fail
 clear hc0 hc1 hc2
 refine (point_any a t l lo lc P w1 (by omega) HL9.out (HK.out.below HBw1.out) HP).mono ?_;rintro e w2 ⟨rfl,hb⟩
 have HXw2:Hid (w2.heap[bx]? = some (.cells #[.slice lo l.length lc,.int .u64 (a:Int),.int .u64 (t:Int),.int .i64 k,.int .u64 (n:Int),.slice eo es.length ec,.int .u32 (f:Int),.string XU] 27 (0,0))):=hid ((hb.block _ (row_lt HXw1.out)).trans HXw1.out)
 have HBw2:Hid (Below w.heap.size w w2):=hid (below_step HBw1.out hb)
 clear hb
 by_cases hp:p=0
 case neg =>
  have hr2:r=p:=by rw[←HR.out,if_neg hp]
  subst hr2
  have d1:((r:Int) == 0)=false:=by simp[hp]
  have d2:(r == 0)=false:=by simp[hp]
  clear hp
  go_wp2_with fail
  go_ret
  exact ⟨rfl,HBw2.out⟩
 case pos =>
  subst hp
  have hc3:w2.cell? ⟨bx,3,none⟩=some (.int .i64 k):=row_cell HXw2.out (j:=3) rfl
  have hc6:w2.cell? ⟨bx,6,none⟩=some (.int .u32 (f:Int)):=row_cell HXw2.out (j:=6) rfl
  have hf:=HFB.out
  by_cases hk0:k=0
  ·subst hk0
   have HR2:Hid ((if fb=true then 7 else 0)=r):=hid (by rw[←HR.out];rfl)
   cases fb with
   | true =>
    have hr2:r=7:=by rw[←HR2.out];rfl
    subst hr2
    go_wp2_with fail
    go_ret
    exact ⟨rfl,HBw2.out⟩
   | false =>
    have hr2:r=0:=by rw[←HR2.out];rfl
    subst hr2
    go_wp2_with fail
    go_ret
    exact ⟨rfl,HBw2.out⟩
  ·have d1:(k == 0)=false:=by simp[hk0]
   have hr2:r=0:=by rw[←HR.out,if_pos rfl,if_neg hk0]
   subst hr2
   clear hk0
   go_wp2_with fail
   go_ret
   exact ⟨rfl,HBw2.out⟩
open Go.RowKit
def z0:Nu:=((0,(0,(((0,0),[]),([],0)))),[])
def z1:Nu:=((0,(1,(((2,0),[]),([],0)))),[])
theorem nz0:nu_arg z0:=nu_zarg
theorem nz1:nu_arg z1:=⟨(by omega),(by omega),(by omega),(fun x hx=>by cases hx),(by simp),(by rw[ksfit];trivial),(by rw[kslim];trivial),(by simp),(by omega),(by simp)⟩
theorem krels_nil (w:World)(P:Nat→Prop)(lo:Option Addr):KRels w P [] lo 0:=by rw[KRels];trivial
theorem nr0 (w:World):nuCel.R w (fun _=>False) z0 [.slice none 0 0,.int .u64 0,.int .u64 0,.int .i64 0,.int .u64 0,.slice none 0 0,.int .u32 0,.string ⟨#[]⟩]:=⟨none,0,none,0,rfl,krels_nil _ _ _,CRels.nil _ _ _ _⟩
theorem nr1 (w:World):nuCel.R w (fun _=>False) z1 [.slice none 0 0,.int .u64 0,.int .u64 1,.int .i64 2,.int .u64 0,.slice none 0 0,.int .u32 0,.string ⟨#[]⟩]:=⟨none,0,none,0,rfl,krels_nil _ _ _,CRels.nil _ _ _ _⟩
theorem metric_zero (w:World):Calls Try.prog 26 #[.agg #[.string ⟨#[]⟩,.string ⟨#[]⟩,.string ⟨#[]⟩,.int .i64 0,.int .i32 0,.bool false,.slice none 0 0,.slice none 0 0,.slice none 0 0,.slice none 0 0,.slice none 0 0,.string ⟨#[]⟩,.string ⟨#[]⟩]] w fun e w'=>e = .returned (.int .i64 1)∧Below w.heap.size w w':=by
 go_enter Try.func26,Try.ntmps26
 go_wp2_with fail
 go_ret
 exact ⟨rfl,below_new _ _⟩
theorem name_six (w:World):Calls Try.prog 27 #[.int .i64 6] w fun e w'=>e = .returned (.string ⟨#[116,119,105,99,101]⟩)∧Below w.heap.size w w':=by
 go_enter Try.func27,Try.ntmps27
 go_wp2_with fail
 go_ret
 exact ⟨rfl,below_new _ _⟩
theorem name_far (w:World):Calls Try.prog 27 #[.int .i64 99] w fun e w'=>e = .returned (.string ⟨#[63]⟩)∧Below w.heap.size w w':=by
 go_enter Try.func27,Try.ntmps27
 go_wp2_with fail
 go_ret
 exact ⟨rfl,below_new _ _⟩
theorem first18 (w:World):Calls Try.prog 6 #[] w fun e w'=>e = .returned (.bool true)∧Below w.heap.size w w':=by
 go_enter Try.func6,Try.ntmps6
 go_wp2_with fail
 refine (num_any z0 [.slice none 0 0,.int .u64 0,.int .u64 0,.int .i64 0,.int .u64 0,.slice none 0 0,.int .u32 0,.string ⟨#[]⟩] (fun _=>False) w nz0 (nr0 w) (by decide) (hid (rfl:numR z0=4))).mono ?_;rintro e w1 ⟨rfl,hb⟩
 have HB1:=hid hb
 clear hb
 go_wp2_with fail
 refine (metric_zero w1).mono ?_;rintro e w2 ⟨rfl,hb⟩
 have HB2:=hid (below_step HB1.out hb)
 clear hb
 go_wp2_with fail
 refine (name_six w2).mono ?_;rintro e w3 ⟨rfl,hb⟩
 have HB3:=hid (below_step HB2.out hb)
 clear hb
 go_wp2_with fail
 refine (name_far w3).mono ?_;rintro e w4 ⟨rfl,hb⟩
 have HB4:=hid (below_step HB3.out hb)
 clear hb
 go_wp2_with fail
 refine (num_any z1 [.slice none 0 0,.int .u64 0,.int .u64 1,.int .i64 2,.int .u64 0,.slice none 0 0,.int .u32 0,.string ⟨#[]⟩] (fun _=>False) w4 nz1 (nr1 w4) (by decide) (hid (rfl:numR z1=0))).mono ?_;rintro e w5 ⟨rfl,hb⟩
 have HB5:=hid (below_step HB4.out hb)
 clear hb
 go_wp2_with fail
 go_ret
 exact ⟨rfl,HB5.out⟩
end Go.Proofs.Ytmlghmjjlpioeaa
