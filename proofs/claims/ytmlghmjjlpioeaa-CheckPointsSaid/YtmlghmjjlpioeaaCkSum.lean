/-
  CkPt, CkSum
-/
import Derived.Test.YtmlghmjjlpioeaaCkBase
import Derived.Test.YtmlghmjjlpioeaaCkTot
import Derived.Test.YtmlghmjjlpioeaaSuBack
set_option maxRecDepth 1000000
set_option maxHeartbeats 16000000
namespace Go.Proofs.Ytmlghmjjlpioeaa
open Go.RowKit
open Lib (hid)
def pointR (s t:Nat)(b:Bool):Nat:=if t=0 then 4 else if t<s then 5 else if b=true then 6 else 0
theorem point_any (s t:Nat)(l:List KV)(lo:Option Addr)(lc:Nat)(P:Nat→Prop)(w:World)(hl:l.length≤9223372036854775806)(hlim:ksfit l)(ha:KRels w P l lo 0){r:Nat}(hr:Hid (pointR s t (dup l)=r)) :
  Calls Try.prog 32 #[.int .u64 (s:Int),.int .u64 (t:Int),.slice lo l.length lc] w fun e w'=>e = .returned (.int .i64 (r:Int))∧Below w.heap.size w w':=by
 by_cases h0:t=0
 ·have hr2:r=4:=by rw[←hr.out];exact if_pos h0
  subst hr2
  subst h0
  clear hr
  go_enter Try.func32,Try.ntmps32
  go_wp2_with fail
  go_ret
  exact ⟨rfl,Below.refl _ _⟩
 ·have d0:((t:Int) == 0)=false:=by simp[h0]
  have d00:(t == 0)=false:=by simp[h0]
  by_cases h1:t<s
  ·have hr2:r=5:=by rw[←hr.out];unfold pointR;rw[if_neg h0,if_pos h1]
   subst hr2
   have d1:decide (t<s)=true:=decide_eq_true h1
   clear hr h0
   go_enter Try.func32,Try.ntmps32
   go_wp2_with fail
   go_ret
   exact ⟨rfl,Below.refl _ _⟩
  ·obtain ⟨b,HB⟩:∃ b,Hid (dup l=b):=⟨_,hid rfl⟩
   have hr2:r=if b=true then 6 else 0:=by rw[←hr.out];unfold pointR;rw[if_neg h0,if_neg h1,HB.out]
   subst hr2
   have d1:decide (t<s)=false:=decide_eq_false h1
   have HT:=hid (twice_any l lo lc P w hl hlim ha HB)
   clear hr h0 ha hlim h1
   go_enter Try.func32,Try.ntmps32
   go_wp2_with fail
   refine HT.out.mono ?_;rintro e w' ⟨rfl,hb⟩
   have HBW:=hid hb
   clear hb
   cases b with
   | true =>
    go_wp2_with fail
    go_ret
    exact ⟨rfl,HBW.out⟩
   | false =>
    go_wp2_with fail
    go_ret
    exact ⟨rfl,HBW.out⟩
def apartB (ph:Bool)(pn:Nat)(qh:Bool)(qn:Nat):Bool:=ph&&(qh&&lessF qn pn)
theorem apart_any (ph qh:Bool)(pn qn:Nat)(w:World)(hp:pn<2 ^ 64)(hq:qn<2 ^ 64){r:Bool}(hr:Hid (apartB ph pn qh qn=r)) :
  Calls Try.prog 36 #[.agg #[.bool ph,.int .u64 (pn:Int)],.agg #[.bool qh,.int .u64 (qn:Int)]] w fun e w'=>e = .returned (.bool r)∧Below w.heap.size w w':=by
 have HW:Hid (Below w.heap.size w ((w.alloc (.cells #[.bool ph,.int .u64 (pn:Int)] 29)).alloc (.cells #[.bool qh,.int .u64 (qn:Int)] 29))):=hid (((Below.refl _ _).alloc (Nat.le_refl _) _).alloc (by simp) _)
 cases ph with
 | false =>
  have hr2:r=false:=by rw[←hr.out];rfl
  subst hr2
  clear hr
  go_enter Try.func36,Try.ntmps36
  go_wp2_with fail
  go_ret
  exact ⟨rfl,HW.out⟩
 | true =>
  cases qh with
  | false =>
   have hr2:r=false:=by rw[←hr.out];rfl
   subst hr2
   clear hr
   go_enter Try.func36,Try.ntmps36
   go_wp2_with fail
   go_ret
   exact ⟨rfl,HW.out⟩
  | true =>
   have HR:Hid (lessF qn pn=r):=hid (by rw[←hr.out];rfl)
   clear hr
   go_enter Try.func36,Try.ntmps36
   go_wp2_with fail
   refine (less_any qn pn _ hq hp HR).mono ?_;rintro e w' ⟨rfl,rfl⟩
   cases r with
   | true =>
    go_wp2_with fail
    go_ret
    exact ⟨rfl,HW.out⟩
   | false =>
    go_wp2_with fail
    go_ret
    exact ⟨rfl,HW.out⟩
def beyondB (off:Int)(n:Nat):Bool:=decide (2147483647<off+(n:Int) - 1)
theorem beyond_any (off:Int)(n:Nat)(bo:Option Addr)(cap:Nat)(U:ByteArray)(w:World)(ho:-2147483648≤off∧off≤2147483647)(hn:n≤1000000){r:Bool}(hr:Hid (beyondB off n=r)) :
  Calls Try.prog 40 #[.agg #[.int .i32 off,.slice bo n cap,.string U]] w fun e w'=>e = .returned (.bool r)∧Below w.heap.size w w':=by
 have q1:IntKind.i64.wrap off=off:=IntWalk.i64_in _ (by omega)
 have q2:IntKind.i64.wrap (off+(n:Int))=off+(n:Int):=IntWalk.i64_in _ (by omega)
 have q3:IntKind.i64.wrap (off+(n:Int) - 1)=off+(n:Int) - 1:=IntWalk.i64_in _ (by omega)
 have HW:Hid (Below w.heap.size w (w.alloc (.cells #[.int .i32 off,.slice bo n cap,.string U] 34))):=hid ((Below.refl _ _).alloc (Nat.le_refl _) _)
 have hr2:decide (2147483647<off+(n:Int) - 1)=r:=hr.out
 clear hr
 go_enter Try.func40,Try.ntmps40
 go_wp2_with fail
 go_ret
 exact ⟨by first|rfl|exact ret_bool hr2,HW.out⟩
open Go.RowKit
def badQ (q:Nat):Bool:=decide (Fm.cls q=4)||(lessF q 0||lessF 4607182418800017408 q)
def qAt (qs:List Qu)(j:Nat):Nat:=(qs.map fun x=>x.1.1).getD j 0
def badAll (qs:List Qu):Bool:=decide (∃ j,j<qs.length∧badQ (qAt qs j)=true)
def sumR:Su→Nat
 | ((a,(t,(_,(_,(qs,(l,_)))))),_)=>if pointR a t (dup l)=0 then (if badAll qs=true then 11 else 0) else pointR a t (dup l)
theorem qu_at {w:World}{P:Nat→Prop}{qs:List Qu}{qo:Option Addr}(h:CRels quCel w P qs qo)(hq:∀ x∈qs,qu_arg x){j:Nat}(hj:j<qs.length):∃ g o q v U,qo=some ⟨g,o,none⟩∧g<w.heap.size∧Hid (q=qAt qs j)∧q<2 ^ 64 ∧
  w.cell? ⟨g,o+j * 3,none⟩=some (.int .u64 ((q:Nat):Int))∧w.cell? ⟨g,o+j * 3+1,none⟩=some (.int .u64 ((v:Nat):Int))∧w.cell? ⟨g,o+j * 3+2,none⟩=some (.string U):=by
 obtain ⟨g,o,cs,rfl,_,hg,hc,hr⟩:=h j hj
 have hq9:=hq qs[j] (List.getElem_mem hj)
 have e:qAt qs j=qs[j].1.1:=by unfold qAt;rw[List.getD_eq_getElem?_getD,List.getElem?_eq_getElem (by simpa using hj)];simp
 rw[e]
 generalize qs[j]=x at hr hq9 ⊢
 obtain ⟨⟨q,v⟩,u⟩:=x
 have hr:cs=[.int .u64 (q:Int),.int .u64 (v:Int),strV u]:=hr
 subst hr
 have h0:=hc 0 (by simp)
 have h1:=hc 1 (by simp)
 have h2:=hc 2 (by simp)
 refine ⟨g,o,q,v,⟨u.toArray⟩,rfl,hg,hid rfl,hq9.1,?_,?_,?_⟩
 ·rw[show o+j * 3=o+quCel.size * j+0 from by show _=o+3 * j+0;omega,h0];rfl
 ·rw[show o+j * 3+1=o+quCel.size * j+1 from by show _=o+3 * j+1;omega,h1];rfl
 ·rw[show o+j * 3+2=o+quCel.size * j+2 from by show _=o+3 * j+2;omega,h2];rfl
theorem sum_any (x:Su)(cs:List Value)(P:Nat→Prop)(w:World)(ha:su_arg x)(hrel:suCel.R w P x cs)(hsm:x.1.2.2.2.2.2.1.length≤1000000∧x.1.2.2.2.2.1.length≤1000000){r:Nat}(hr:Hid (sumR x=r)) :
  Calls Try.prog 17 #[.agg cs.toArray] w fun e w'=>e = .returned (.int .i64 (r:Int))∧Below w.heap.size w w':=by
 obtain ⟨⟨a,⟨t,⟨k,⟨n,⟨qs,⟨l,f⟩⟩⟩⟩⟩⟩,u⟩:=x
 obtain ⟨lo,lc,qo,qc,rfl,hk,hq⟩:=hrel
 obtain ⟨_,_,_,_,h5,_,h7,_,_,_,_⟩:=ha
 obtain ⟨hs1,hs2⟩:=hsm
 have hs1:l.length≤1000000:=hs1
 have hs2:qs.length≤1000000:=hs2
 dsimp only[strV]
 obtain ⟨XU,hXU⟩:∃ X:ByteArray,(⟨u.toArray⟩:ByteArray)=X:=⟨_,rfl⟩
 rw[hXU]
 clear hXU
 obtain ⟨p,HP⟩:∃ p,Hid (pointR a t (dup l)=p):=⟨_,hid rfl⟩
 have HR:Hid ((if p=0 then (if badAll qs=true then 11 else 0) else p)=r):=hid (by rw[←hr.out,←HP.out];rfl)
 clear hr
 have HK:=hid hk
 have HQ:=hid hq
 have HQA:=hid h5
 have HL9:=hid h7
 clear hk hq h5 h7
 obtain ⟨bx,hbx⟩:∃ b,w.heap.size=b:=⟨_,rfl⟩
 obtain ⟨w1,hw1⟩:∃ W,w.alloc (.cells #[.slice lo l.length lc,.int .u64 (a:Int),.int .u64 (t:Int),.int .u64 (k:Int),.int .u64 (n:Int),.slice qo qs.length qc,.int .u32 (f:Int),.string XU] 39)=W:=⟨_,rfl⟩
 have HBw1:Hid (Below w.heap.size w w1):=hid (by rw[←hw1];exact below_new _ _)
 have HXw1:Hid (w1.heap[bx]? = some (.cells #[.slice lo l.length lc,.int .u64 (a:Int),.int .u64 (t:Int),.int .u64 (k:Int),.int .u64 (n:Int),.slice qo qs.length qc,.int .u32 (f:Int),.string XU] 39 (0,0))):=hid (by rw[←hw1,←hbx];exact heap_alloc_new w _)
 have HW:=hid hw1
 have HBX:=hid hbx
 clear hw1 hbx
 go_enter Try.func17,Try.ntmps17
 go_upto_region 1 with fail
 rw[HW.out,HBX.out]
 have hc0:w1.cell? ⟨bx,0,none⟩=some (.slice lo l.length lc):=row_cell HXw1.out (j:=0) rfl
 have hc1:w1.cell? ⟨bx,1,none⟩=some (.int .u64 (a:Int)):=row_cell HXw1.out (j:=1) rfl
 have hc2:w1.cell? ⟨bx,2,none⟩=some (.int .u64 (t:Int)):=row_cell HXw1.out (j:=2) rfl
 go_wp2_with fail
 clear hc0 hc1 hc2
 refine (point_any a t l lo lc P w1 (by omega) HL9.out (HK.out.below HBw1.out) HP).mono ?_;rintro e w2 ⟨rfl,hb⟩
 have HXw2:Hid (w2.heap[bx]? = some (.cells #[.slice lo l.length lc,.int .u64 (a:Int),.int .u64 (t:Int),.int .u64 (k:Int),.int .u64 (n:Int),.slice qo qs.length qc,.int .u32 (f:Int),.string XU] 39 (0,0))):=hid ((hb.block _ (row_lt HXw1.out)).trans HXw1.out)
 have HBw2:Hid (Below w.heap.size w w2):=hid (below_step HBw1.out hb)
 clear hb
 by_cases hp:p=0
 case neg =>
  have hr2:r=p:=by rw[←HR.out,if_neg hp]
  subst hr2
  have d1:((r:Int) != 0)=true:=by rw[bne_iff_ne];omega
  have d2:(r != 0)=true:=by rw[bne_iff_ne];omega
  clear hp
  go_wp2_with fail
  go_ret
  exact ⟨rfl,HBw2.out⟩
 case pos =>
  subst hp
  have HR0:Hid ((if badAll qs=true then 11 else 0)=r):=hid (by rw[←HR.out];rfl)
  have hc5:w2.cell? ⟨bx,5,none⟩=some (.slice qo qs.length qc):=row_cell HXw2.out (j:=5) rfl
  go_wp2_with fail
  clear hc5
  go_loopg [19] qs.length (fun k i wr=>∃ j:Nat,i = .int .i64 (j:Int)∧j+k=qs.length∧Below w.heap.size w wr∧Hid (∀ m,m<j→badQ (qAt qs m)=false))
  case atStart=>exact ⟨0,rfl,by omega,HBw2.out,hid (fun m hm=>by omega)⟩
  case round =>
   obtain ⟨j,rfl,hj,hbr,HM⟩:=hrel
   have HBR:=hid hbr
   have HJ:=hid hj
   clear hj hbr
   by_cases hlt:j<qs.length
   ·obtain ⟨g,o,q,v,U,rfl,hg,HQQ,hq9,hx0,hx1,hx2⟩:=qu_at (HQ.out.below HBR.out) HQA.out hlt
    have HBQ:Hid (Below wr.heap.size wr (wr.alloc (.cells #[.int .u64 (q:Int),.int .u64 (v:Int),.string U] 88))):=hid (below_new _ _)
    obtain ⟨c,HC⟩:∃ c:Int,Hid (c=(Fm.cls q:Nat)):=⟨_,hid rfl⟩
    by_cases h4:Fm.cls q=4
    ·have e1:(c == 4)=true:=by rw[HC.out,h4];rfl
     have HBAD:Hid (badQ q=true):=hid (by unfold badQ;rw[decide_eq_true h4];rfl)
     clear h4
     go_wp2_with fail
     refine (class_is q _ hq9 HC).mono ?_;rintro e w' ⟨rfl,rfl⟩
     have hr2:r=11:=by
      rw[←HR0.out]
      exact if_pos (decide_eq_true ⟨j,hlt,by rw[←HQQ.out];exact HBAD.out⟩)
     subst hr2
     go_wp2_with fail
     go_ret
     exact ⟨rfl,HBR.out.trans (HBQ.out.mono HBR.out.size)⟩
    ·have e1:(c == 4)=false:=by rw[HC.out];simp;omega
     obtain ⟨b1,HB1⟩:∃ b1,Hid (lessF q 0=b1):=⟨_,hid rfl⟩
     have HN4:=hid h4
     clear h4
     go_wp2_with fail
     refine (class_is q _ hq9 HC).mono ?_;rintro e w' ⟨rfl,rfl⟩
     go_wp2_with fail
     refine (less_any q 0 _ hq9 (by decide) HB1).mono ?_;rintro e w' ⟨rfl,rfl⟩
     cases b1 with
     | true =>
      have HBAD:Hid (badQ q=true):=hid (by unfold badQ;rw[HB1.out];simp)
      have hr2:r=11:=by
       rw[←HR0.out]
       exact if_pos (decide_eq_true ⟨j,hlt,by rw[←HQQ.out];exact HBAD.out⟩)
      subst hr2
      go_wp2_with fail
      go_ret
      exact ⟨rfl,HBR.out.trans (HBQ.out.mono HBR.out.size)⟩
     | false =>
      obtain ⟨b2,HB2⟩:∃ b2,Hid (lessF 4607182418800017408 q=b2):=⟨_,hid rfl⟩
      have HBAD:Hid (badQ q=b2):=hid (by unfold badQ;rw[decide_eq_false HN4.out,HB1.out,HB2.out];rfl)
      go_wp2_with fail
      skip
      refine (less_any 4607182418800017408 q _ (by decide) hq9 HB2).mono ?_;rintro e w' ⟨rfl,rfl⟩
      cases b2 with
      | true =>
       have hr2:r=11:=by
        rw[←HR0.out]
        exact if_pos (decide_eq_true ⟨j,hlt,by rw[←HQQ.out];exact HBAD.out⟩)
       subst hr2
       go_wp2_with fail
       go_ret
       exact ⟨rfl,HBR.out.trans (HBQ.out.mono HBR.out.size)⟩
      | false =>
       have HN2:Hid (∀ m,m<j+1→badQ (qAt qs m)=false):=hid (fun m hm=>by
        by_cases hmj:m=j
        ·rw[hmj,←HQQ.out];exact HBAD.out
        ·exact HM.out m (by omega))
       go_wp2_with fail
       have hj:=HJ.out
       go_roundg (gk - 1)
       case measure=>omega
       case rel=>exact ⟨j+1,by simp,by omega,HBR.out.trans (HBQ.out.mono HBR.out.size),HN2⟩
   ·have hr2:r=0:=by
     rw[←HR0.out]
     refine if_neg (fun e=>?_)
     obtain ⟨m,hm,hb⟩:=of_decide_eq_true e
     rw[HM.out m (by have:=HJ.out;omega)] at hb
     cases hb
    subst hr2
    go_wp2_with fail
    go_ret
    exact ⟨rfl,HBR.out⟩
end Go.Proofs.Ytmlghmjjlpioeaa
