/-
  CkRTw, CkRSum
-/
import Derived.Test.YtmlghmjjlpioeaaCkRef
import Derived.Test.YtmlghmjjlpioeaaOrd
import Derived.Test.YtmlghmjjlpioeaaCkSum
set_option maxRecDepth 1000000
set_option maxHeartbeats 16000000
namespace Go.Proofs.Ytmlghmjjlpioeaa
open Go.RowKit
open Lib (hid)
theorem dup_iff (l:List KV):dup l=false↔∀ a b,b<a→a<l.length→(l.map kkey).getD a []≠(l.map kkey).getD b []:=by
 unfold dup
 rw[Bool.not_eq_false',decide_eq_true_iff,List.Nodup,List.pairwise_iff_getElem]
 constructor
 ·intro h a b hb ha
  have:=h b a (by simp;omega) (by simpa using ha) hb
  rw[List.getD_eq_getElem?_getD,List.getD_eq_getElem?_getD,List.getElem?_eq_getElem (by simpa using ha),List.getElem?_eq_getElem (by simp;omega)]
  exact fun e=>this e.symm
 ·intro h i j hi hj hij
  have:=h j i hij (by simpa using hj)
  rw[List.getD_eq_getElem?_getD,List.getD_eq_getElem?_getD,List.getElem?_eq_getElem hj,List.getElem?_eq_getElem hi] at this
  exact fun e=>this e.symm
theorem krels_key {w:World}{P:Nat→Prop}{l:List KV}{lo:Option Addr}(h:KRels w P l lo 0){j:Nat}(hj:j<l.length):∃ g o t,lo=some ⟨g,o,none⟩∧g<w.heap.size∧(l.map kkey).getD j []=t∧w.cell? ⟨g,o+j * 11,none⟩=some (.string ⟨t.toArray⟩):=by
 obtain ⟨g,o,cs,rfl,hg,hc,hr⟩:=krels_at0 h j hj
 refine ⟨g,o,_,rfl,hg,rfl,?_⟩
 have e:(l.map kkey).getD j []=kkey l[j]:=by rw[List.getD_eq_getElem?_getD,List.getElem?_eq_getElem (by simpa using hj)];simp
 rw[e]
 generalize l[j]=x at hr ⊢
 cases x with|mk key has v u =>
 rw[KRel] at hr
 obtain ⟨cv,hrv,rfl⟩:=hr
 have h0:=hc 0 (by simp)
 rw[show o+j * 11=o+11 * j+0 by omega,h0];rfl
theorem rtwice_any (l:List KV)(lo:Option Addr)(lc:Nat)(P:Nat→Prop)(w:World)(hl:l.length≤9223372036854775806)(_hlim:ksfit l)(ha:KRels w P l lo 0){r:Bool}(hr:Hid (dup l=r)) :
  Calls Try.prog 58 #[.slice lo l.length lc] w fun e w'=>e = .returned (.bool r)∧Below w.heap.size w w':=by
 have HA:=hid ha
 clear ha
 go_enter Try.func58,Try.ntmps58
 go_wp2_with fail
 go_loopg [3] l.length (fun k i wr=>∃ j:Nat,i = .int .i64 (j:Int)∧j+k=l.length∧Below w.heap.size w wr∧Hid (∀ a b,b<a→a<j→(l.map kkey).getD a []≠(l.map kkey).getD b []))
 case atStart=>exact ⟨0,rfl,by omega,Below.refl _ _,hid (fun a b _ h=>by omega)⟩
 case round =>
  obtain ⟨g0,rfl⟩:∃ g0,g0=gk:=⟨_,rfl⟩
  obtain ⟨j,rfl,hj,hbr,HM⟩:=hrel
  have HBR:=hid hbr
  have HJ:=hid hj
  clear hj hbr
  by_cases hlt:j<l.length
  ·have q9:IntKind.i64.wrap ((j:Int)+1)=(j:Int)+1:=IntWalk.i64_in _ (by omega)
   go_wp2_with fail
   go_loopg [4] j (fun k2 i wr2=>∃ m:Nat,i = .int .i64 (m:Int)∧m+k2=j∧Below w.heap.size w wr2∧Hid (∀ b,b<m→(l.map kkey).getD j []≠(l.map kkey).getD b []))
   case atStart=>exact ⟨0,rfl,by omega,HBR.out,hid (fun b h=>by omega)⟩
   case round =>
    obtain ⟨m,rfl,hm,hbr2,HM2⟩:=hrel
    have HBR2:=hid hbr2
    have HMM:=hid hm
    clear hm hbr2
    by_cases hml:m<j
    ·have q8:IntKind.i64.wrap ((m:Int)+1)=(m:Int)+1:=IntWalk.i64_in _ (by omega)
     have hmn:m<l.length:=by omega
     obtain ⟨g,o,t,rfl,hg,ht,hc1⟩:=krels_key (HA.out.below HBR2.out) hlt
     obtain ⟨g2,o2,t2,he,hg2,ht2,hc2⟩:=krels_key (HA.out.below HBR2.out) hmn
     simp only[Option.some.injEq,Addr.mk.injEq] at he
     obtain ⟨rfl,rfl,_⟩:=he
     obtain ⟨KA,hKA⟩:∃ X:ByteArray,(⟨t.toArray⟩:ByteArray)=X:=⟨_,rfl⟩
     obtain ⟨KB,hKB⟩:∃ X:ByteArray,(⟨t2.toArray⟩:ByteArray)=X:=⟨_,rfl⟩
     rw[hKA] at hc1
     rw[hKB] at hc2
     have HEQ:Hid (KA=KB↔t=t2):=hid (by
      rw[←hKA,←hKB]
      constructor
      ·intro e
       have:=congrArg (fun x:ByteArray=>x.data.toList) e
       simpa using this
      ·intro e;rw[e])
     have HT1:=hid ht
     have HT2:=hid ht2
     have HKA:Hid (KA.data.toList=t):=hid (by rw[←hKA])
     have HKB:Hid (KB.data.toList=t2):=hid (by rw[←hKB])
     clear hKA hKB ht ht2
     have hI:Below wr.heap.size wr wr.drew:=(Below.refl _ _).drew
     have hne:Nonempty { w':World // Below wr.heap.size wr w' }:=⟨⟨_,hI⟩⟩
     have hc3:∀ t:{ w':World // Below wr.heap.size wr w' },t.1.cell? ⟨g,o+j * 11,none⟩=some (.string KA):=fun t=>(t.2.cell (p:=⟨g,o+j * 11,none⟩) hg).trans hc1
     have hc4:∀ t:{ w':World // Below wr.heap.size wr w' },t.1.cell? ⟨g,o+m * 11,none⟩=some (.string KB):=fun t=>(t.2.cell (p:=⟨g,o+m * 11,none⟩) hg).trans hc2
     clear hc1 hc2
     by_cases hx:KA=KB
     ·have e1:(KA.toList == KB.toList)=true:=by rw[hx];simp
      have hr2:r=true:=by
       rw[←hr.out]
       cases hd:dup l with
       | true=>rfl
       | false=>exact absurd (by rw[HT1.out,HT2.out];exact HEQ.out.1 hx) ((dup_iff l).1 hd j m hml hlt)
      subst hr2
      clear hx
      go_wp2_with fail
      refine wp_region_seq (S:=fun w'=>Below wr.heap.size wr w') [(0,true),(1,true),(2,true),(3,true),(4,true),(5,true),(6,true),(7,true),(8,true),(9,true),(10,true)] (by kernel_rfl) (by kernel_rfl) (by kernel_rfl) (by kernel_rfl) hI ?_
      iterate 11 (refine seq_take _ rfl (fun KC hK=>?_);go_simp;(first|refine hK _ ?_|refine ⟨_,fun _ _=>rfl,hK _ ?_⟩|refine ⟨undef,by first|rfl|simp,hK _ ?_⟩);clear hK KC)
      refine seq_done ?_
      clear hc3 hc4
      go_wp2_with fail
      go_ret
      exact ⟨rfl,HBR2.out.trans (hI.mono HBR2.out.size)⟩
     ·have e1:(KA.toList == KB.toList)=false:=(text_ne HKA.out HKB.out (fun e=>hx (HEQ.out.2 e))).2
      have HN2:Hid (∀ b,b<m+1→(l.map kkey).getD j []≠(l.map kkey).getD b []):=hid (fun b hb=>by
       by_cases hbm:b=m
       ·rw[hbm,HT1.out,HT2.out];exact fun e=>hx (HEQ.out.2 e)
       ·exact HM2.out b (by omega))
      have HX:=hid hx
      clear hx
      go_wp2_with fail
      refine wp_region_seq (S:=fun w'=>Below wr.heap.size wr w') [(0,true),(1,true),(2,true),(3,true),(4,true),(5,true),(6,true),(7,true),(8,true),(9,true),(10,true)] (by kernel_rfl) (by kernel_rfl) (by kernel_rfl) (by kernel_rfl) hI ?_
      iterate 11 (refine seq_take _ rfl (fun KC hK=>?_);go_simp;(first|refine hK _ ?_|refine ⟨_,fun _ _=>rfl,hK _ ?_⟩|refine ⟨undef,by first|rfl|simp,hK _ ?_⟩);clear hK KC)
      refine seq_done ?_
      clear hc3 hc4
      go_wp2_with fail
      have hm:=HMM.out
      go_roundg (gk - 1)
      case measure=>omega
      case rel=>exact ⟨m+1,by simp,by omega,HBR2.out.trans (hI.mono HBR2.out.size),HN2⟩
    ·have hme:m=j:=by have:=HMM.out;omega
     have HN3:Hid (∀ a b,b<a→a<j+1→(l.map kkey).getD a []≠(l.map kkey).getD b []):=hid (fun a b hb ha=>by
      by_cases haj:a=j
      ·rw[haj];exact HM2.out b (by omega)
      ·exact HM.out a b hb (by omega))
     clear hme
     go_wp2_with fail
     have hj:=HJ.out
     go_roundg (g0 - 1)
     case measure=>omega
     case rel=>exact ⟨j+1,by simp,by omega,HBR2.out,HN3⟩
  ·have hr2:r=false:=by
    rw[←hr.out]
    exact (dup_iff l).2 fun a b hb ha=>HM.out a b hb (by have:=HJ.out;omega)
   subst hr2
   go_wp2_with fail
   go_ret
   exact ⟨rfl,HBR.out⟩
theorem base_any (s t:Nat)(l:List KV)(lo:Option Addr)(lc:Nat)(P:Nat→Prop)(w:World)(hl:l.length≤9223372036854775806)(hlim:ksfit l)(ha:KRels w P l lo 0){r:Nat}(hr:Hid (pointR s t (dup l)=r)) :
  Calls Try.prog 33 #[.int .u64 (s:Int),.int .u64 (t:Int),.slice lo l.length lc] w fun e w'=>e = .returned (.int .i64 (r:Int))∧Below w.heap.size w w':=by
 by_cases h0:t=0
 ·have hr2:r=4:=by rw[←hr.out];exact if_pos h0
  subst hr2
  subst h0
  clear hr
  go_enter Try.func33,Try.ntmps33
  go_wp2_with fail
  go_ret
  exact ⟨rfl,Below.refl _ _⟩
 ·have d0:((t:Int) == 0)=false:=by simp[h0]
  have d00:(t == 0)=false:=by simp[h0]
  by_cases h1:t<s
  ·have hr2:r=5:=by rw[←hr.out];unfold pointR;rw[if_neg h0,if_pos h1]
   subst hr2
   have d1:decide (t<s)=true:=decide_eq_true h1
   clear hr h0
   go_enter Try.func33,Try.ntmps33
   go_wp2_with fail
   go_ret
   exact ⟨rfl,Below.refl _ _⟩
  ·obtain ⟨b,HB⟩:∃ b,Hid (dup l=b):=⟨_,hid rfl⟩
   have hr2:r=if b=true then 6 else 0:=by rw[←hr.out];unfold pointR;rw[if_neg h0,if_neg h1,HB.out]
   subst hr2
   have d1:decide (t<s)=false:=decide_eq_false h1
   have HT:=hid (rtwice_any l lo lc P w hl hlim ha HB)
   clear hr h0 ha hlim h1
   go_enter Try.func33,Try.ntmps33
   go_wp2_with fail
   refine HT.out.mono ?_;rintro e w' ⟨rfl,hb⟩
   have HBW:=hid hb
   clear hb
   cases b with
   | true =>
    go_wp2_with fail
    go_ret
    exact ⟨rfl,HBW.out⟩
   | false =>
    go_wp2_with fail
    go_ret
    exact ⟨rfl,HBW.out⟩
def oneS:Nat:=2 ^ 1074
theorem one_k:Fm.K oneS 1084 1:=⟨by decide,by decide +kernel,.inr (by decide +kernel)⟩
theorem one_p:0<oneS:=by decide +kernel
theorem one_r:(if false=true then 1 else 0) * 2 ^ 63+Fm.rnd oneS=4607182418800017408:=by decide +kernel
theorem fromone (w:World):Calls Try.prog 46 #[.int .i64 1] w fun x w'=>x = .returned (.int .u64 4607182418800017408)∧w=w':=by
 go_enter Try.func46,Try.ntmps46
 go_wp2_with fail
 refine (rround_at false 1 1084 oneS 4607182418800017408 0 w one_k one_p (by omega) (by omega) (hid one_r)).mono ?_;rintro e w' ⟨rfl,rfl⟩
 go_wp2_with fail
 go_ret
 exact ⟨rfl,rfl⟩
open Go.RowKit
theorem rsum_any (x:Su)(cs:List Value)(P:Nat→Prop)(w:World)(ha:su_arg x)(hrel:suCel.R w P x cs)(hsm:x.1.2.2.2.2.2.1.length≤1000000∧x.1.2.2.2.2.1.length≤1000000){r:Nat}(hr:Hid (sumR x=r)) :
  Calls Try.prog 18 #[.agg cs.toArray] w fun e w'=>e = .returned (.int .i64 (r:Int))∧Below w.heap.size w w':=by
 obtain ⟨⟨a,⟨t,⟨k,⟨n,⟨qs,⟨l,f⟩⟩⟩⟩⟩⟩,u⟩:=x
 obtain ⟨lo,lc,qo,qc,rfl,hk,hq⟩:=hrel
 obtain ⟨_,_,_,_,h5,_,h7,_,_,_,_⟩:=ha
 obtain ⟨hs1,hs2⟩:=hsm
 have hs1:l.length≤1000000:=hs1
 have hs2:qs.length≤1000000:=hs2
 dsimp only[strV]
 obtain ⟨XU,hXU⟩:∃ X:ByteArray,(⟨u.toArray⟩:ByteArray)=X:=⟨_,rfl⟩
 rw[hXU]
 clear hXU
 obtain ⟨p,HP⟩:∃ p,Hid (pointR a t (dup l)=p):=⟨_,hid rfl⟩
 have HR:Hid ((if p=0 then (if badAll qs=true then 11 else 0) else p)=r):=hid (by rw[←hr.out,←HP.out];rfl)
 clear hr
 have HK:=hid hk
 have HQ:=hid hq
 have HQA:=hid h5
 have HL9:=hid h7
 clear hk hq h5 h7
 obtain ⟨bx,hbx⟩:∃ b,w.heap.size=b:=⟨_,rfl⟩
 obtain ⟨w1,hw1⟩:∃ W,w.alloc (.cells #[.slice lo l.length lc,.int .u64 (a:Int),.int .u64 (t:Int),.int .u64 (k:Int),.int .u64 (n:Int),.slice qo qs.length qc,.int .u32 (f:Int),.string XU] 39)=W:=⟨_,rfl⟩
 have HBw1:Hid (Below w.heap.size w w1):=hid (by rw[←hw1];exact below_new _ _)
 have HXw1:Hid (w1.heap[bx]? = some (.cells #[.slice lo l.length lc,.int .u64 (a:Int),.int .u64 (t:Int),.int .u64 (k:Int),.int .u64 (n:Int),.slice qo qs.length qc,.int .u32 (f:Int),.string XU] 39 (0,0))):=hid (by rw[←hw1,←hbx];exact heap_alloc_new w _)
 have HW:=hid hw1
 have HBX:=hid hbx
 clear hw1 hbx
 go_enter Try.func18,Try.ntmps18
 go_upto_region 1 with fail
 rw[HW.out,HBX.out]
 have hc0:w1.cell? ⟨bx,0,none⟩=some (.slice lo l.length lc):=row_cell HXw1.out (j:=0) rfl
 have hc1:w1.cell? ⟨bx,1,none⟩=some (.int .u64 (a:Int)):=row_cell HXw1.out (j:=1) rfl
 have hc2:w1.cell? ⟨bx,2,none⟩=some (.int .u64 (t:Int)):=row_cell HXw1.out (j:=2) rfl
 go_wp2_with fail
 clear hc0 hc1 hc2
 refine (base_any a t l lo lc P w1 (by omega) HL9.out (HK.out.below HBw1.out) HP).mono ?_;rintro e w2 ⟨rfl,hb⟩
 have HXw2:Hid (w2.heap[bx]? = some (.cells #[.slice lo l.length lc,.int .u64 (a:Int),.int .u64 (t:Int),.int .u64 (k:Int),.int .u64 (n:Int),.slice qo qs.length qc,.int .u32 (f:Int),.string XU] 39 (0,0))):=hid ((hb.block _ (row_lt HXw1.out)).trans HXw1.out)
 have HBw2:Hid (Below w.heap.size w w2):=hid (below_step HBw1.out hb)
 clear hb
 go_wp2_with fail
 by_cases hp:p=0
 case neg =>
  have hr2:r=p:=by rw[←HR.out,if_neg hp]
  subst hr2
  have d1:((r:Int) == 0)=false:=by simp[hp]
  have d2:(r == 0)=false:=by simp[hp]
  clear hp
  go_loopg [3,4] 0 (fun k rv i wr=>rv = .int .i64 (r:Int)∧i = .int .i64 0∧w2=wr)
  case atStart=>exact ⟨rfl,rfl,rfl⟩
  case round =>
   obtain ⟨rfl,rfl,rfl⟩:=hrel
   have hc5:w2.cell? ⟨bx,5,none⟩=some (.slice qo qs.length qc):=row_cell HXw2.out (j:=5) rfl
   by_cases hz:0<qs.length
   ·have e1:decide (0<qs.length)=true:=decide_eq_true hz
    go_wp2_with fail
    go_ret
    exact ⟨rfl,HBw2.out⟩
   ·have e1:decide (0<qs.length)=false:=decide_eq_false hz
    go_wp2_with fail
    go_ret
    exact ⟨rfl,HBw2.out⟩
 case pos =>
  subst hp
  have HR0:Hid ((if badAll qs=true then 11 else 0)=r):=hid (by rw[←HR.out];rfl)
  go_loopg [3,4] (qs.length+1) (fun k rv i wr=>∃ (j rr:Nat),rv = .int .i64 (rr:Int)∧i = .int .i64 (j:Int)∧j≤qs.length∧Below w2.heap.size w2 wr∧Hid ((rr=0∧j+k=qs.length+1∧∀ m,m<j→badQ (qAt qs m)=false)∨(rr=11∧badAll qs=true)))
  case atStart=>exact ⟨0,0,rfl,rfl,by omega,Below.refl _ _,hid (.inl ⟨rfl,by omega,fun m hm=>by omega⟩)⟩
  case round =>
   obtain ⟨j,rr,rfl,rfl,hjl,hbr,HC⟩:=hrel
   have HXr:Hid (wr.heap[bx]? = some (.cells #[.slice lo l.length lc,.int .u64 (a:Int),.int .u64 (t:Int),.int .u64 (k:Int),.int .u64 (n:Int),.slice qo qs.length qc,.int .u32 (f:Int),.string XU] 39 (0,0))):=hid ((hbr.block _ (row_lt HXw2.out)).trans HXw2.out)
   have HBR:=hid hbr
   have HBW:=hid (HBw2.out.trans (hbr.mono HBw2.out.size))
   clear hbr
   rcases HC.out with ⟨rfl,hk,hmm⟩|⟨rfl,hbad⟩
   ·have HJ:=hid hk
    have HM:=hid hmm
    clear hk hmm HC
    by_cases hlt:j<qs.length
    ·have q9:IntKind.i64.wrap ((j:Int)+1)=(j:Int)+1:=IntWalk.i64_in _ (by omega)
     have hc5:wr.cell? ⟨bx,5,none⟩=some (.slice qo qs.length qc):=row_cell HXr.out (j:=5) rfl
     obtain ⟨g,o,q,v,U,rfl,hg,HQQ,hq9,hx0,hx1,hx2⟩:=qu_at (HQ.out.below HBW.out) HQA.out hlt
     obtain ⟨c,HC⟩:∃ c:Int,Hid (c=(Fm.cls q:Nat)):=⟨_,hid rfl⟩
     by_cases h4:Fm.cls q=4
     ·have e1:(c == 4)=true:=by rw[HC.out,h4];rfl
      have HBAD:Hid (badQ q=true):=hid (by unfold badQ;rw[decide_eq_true h4];rfl)
      clear h4
      go_wp2_with fail
      refine (rclass_is q _ hq9 HC).mono ?_;rintro e w' ⟨rfl,rfl⟩
      have HD:Hid (badAll qs=true):=hid (decide_eq_true ⟨j,hlt,by rw[←HQQ.out];exact HBAD.out⟩)
      go_wp2_with fail
      have hj:=HJ.out
      go_roundg 0
      case measure=>omega
      case rel=>exact ⟨j+1,11,rfl,by simp,by omega,HBR.out,hid (.inr ⟨rfl,HD.out⟩)⟩
     ·have e1:(c == 4)=false:=by rw[HC.out];simp;omega
      obtain ⟨b1,HB1⟩:∃ b1,Hid (lessF q 0=b1):=⟨_,hid rfl⟩
      have HN4:=hid h4
      clear h4
      go_wp2_with fail
      refine (rclass_is q _ hq9 HC).mono ?_;rintro e w' ⟨rfl,rfl⟩
      go_wp2_with fail
      refine (rless_any q 0 _ hq9 (by decide) HB1).mono ?_;rintro e w' ⟨rfl,rfl⟩
      cases b1 with
      | true =>
       have HBAD:Hid (badQ q=true):=hid (by unfold badQ;rw[HB1.out];simp)
       have HD:Hid (badAll qs=true):=hid (decide_eq_true ⟨j,hlt,by rw[←HQQ.out];exact HBAD.out⟩)
       go_wp2_with fail
       have hj:=HJ.out
       go_roundg 0
       case measure=>omega
       case rel=>exact ⟨j+1,11,rfl,by simp,by omega,HBR.out,hid (.inr ⟨rfl,HD.out⟩)⟩
      | false =>
       obtain ⟨b2,HB2⟩:∃ b2,Hid (lessF 4607182418800017408 q=b2):=⟨_,hid rfl⟩
       have HBAD:Hid (badQ q=b2):=hid (by unfold badQ;rw[decide_eq_false HN4.out,HB1.out,HB2.out];rfl)
       go_wp2_with fail
       refine (fromone _).mono ?_;rintro e w' ⟨rfl,rfl⟩
       go_wp2_with fail
       refine (rless_any 4607182418800017408 q _ (by decide) hq9 HB2).mono ?_;rintro e w' ⟨rfl,rfl⟩
       cases b2 with
       | true =>
        have HD:Hid (badAll qs=true):=hid (decide_eq_true ⟨j,hlt,by rw[←HQQ.out];exact HBAD.out⟩)
        go_wp2_with fail
        have hj:=HJ.out
        go_roundg 0
        case measure=>omega
        case rel=>exact ⟨j+1,11,rfl,by simp,by omega,HBR.out,hid (.inr ⟨rfl,HD.out⟩)⟩
       | false =>
        have HN2:Hid (∀ m,m<j+1→badQ (qAt qs m)=false):=hid (fun m hm=>by
         by_cases hmj:m=j
         ·rw[hmj,←HQQ.out];exact HBAD.out
         ·exact HM.out m (by omega))
        go_wp2_with fail
        have hj:=HJ.out
        go_roundg (gk - 1)
        case measure=>omega
        case rel=>exact ⟨j+1,0,rfl,by simp,by omega,HBR.out,hid (.inl ⟨rfl,by omega,HN2.out⟩)⟩
    ·have hr2:r=0:=by
      rw[←HR0.out]
      refine if_neg (fun e=>?_)
      obtain ⟨m,hm,hb⟩:=of_decide_eq_true e
      rw[HM.out m (by omega)] at hb
      cases hb
     subst hr2
     have hc5:wr.cell? ⟨bx,5,none⟩=some (.slice qo qs.length qc):=row_cell HXr.out (j:=5) rfl
     go_wp2_with fail
     go_ret
     exact ⟨rfl,HBW.out⟩
   ·have hr2:r=11:=by rw[←HR0.out,hbad];rfl
    subst hr2
    clear hbad HC
    by_cases hlt:j<qs.length
    ·have e1:decide (j<qs.length)=true:=decide_eq_true hlt
     have hc5:wr.cell? ⟨bx,5,none⟩=some (.slice qo qs.length qc):=row_cell HXr.out (j:=5) rfl
     go_wp2_with fail
     go_ret
     exact ⟨rfl,HBW.out⟩
    ·have e1:decide (j<qs.length)=false:=decide_eq_false hlt
     have hc5:wr.cell? ⟨bx,5,none⟩=some (.slice qo qs.length qc):=row_cell HXr.out (j:=5) rfl
     go_wp2_with fail
     go_ret
     exact ⟨rfl,HBW.out⟩
end Go.Proofs.Ytmlghmjjlpioeaa
