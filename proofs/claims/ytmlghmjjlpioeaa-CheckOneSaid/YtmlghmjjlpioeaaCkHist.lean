/-
  check.Hist.
-/
import Derived.Test.YtmlghmjjlpioeaaCkPt
import Derived.Test.YtmlghmjjlpioeaaHiBack
set_option maxRecDepth 1000000
set_option maxHeartbeats 16000000
namespace Go.Proofs.Ytmlghmjjlpioeaa
open Go.RowKit
open Lib (hid)
def histT (k:Nat)(nc nb:List Nat):Bool:=decide (0<nc.length∨0<nb.length)&&(decide (nc.length≠nb.length+1)||!decide (nc.sum=k))
def histR:Hi→Nat
 | ((a,(t,(k,(_,(nc,(nb,(_,(l,(_,((mh,mn),(gh,gn))))))))))),_)=>if pointR a t (dup l)=0 then (if histT k nc nb=true then 8 else if riseB nb=false then 9 else if apartB mh mn gh gn=true then 11 else 0) else pointR a t (dup l)
theorem lists_one {w:World}{ao:Option Addr}{l:List Nat}{c:Nat}(h:Nats .u64 w ao l)(T:TypeId):Lists (w.alloc (.cells #[.slice ao l.length c] T)) (some ⟨w.heap.size,0,none⟩) [l]:=by
 intro j hj
 have h0:j=0:=by simp at hj;omega
 subst h0
 exact ⟨w.heap.size,0,ao,c,rfl,row_cell (heap_alloc_new w _) (j:=0) rfl,h.below (below_new _ _)⟩
theorem hist_any (x:Hi)(cs:List Value)(P:Nat→Prop)(w:World)(ha:hi_arg x)(hrel:hiCel.R w P x cs)(hsm:x.1.2.2.2.2.1.length≤1000000∧x.1.2.2.2.2.2.1.length≤1000000∧x.1.2.2.2.2.2.2.2.1.length≤1000000){r:Nat}(hr:Hid (histR x=r)) :
  Calls Try.prog 13 #[.agg cs.toArray] w fun e w'=>e = .returned (.int .i64 (r:Int))∧Below w.heap.size w w':=by
 obtain ⟨⟨a,⟨t,⟨k,⟨⟨ph,pn⟩,⟨nc,⟨nb,⟨es,⟨l,⟨f,⟨⟨mh,mn⟩,⟨gh,gn⟩⟩⟩⟩⟩⟩⟩⟩⟩⟩⟩,u⟩:=x
 obtain ⟨lo,lc,nco,ncc,nbo,nbc,eo,ec,rfl,hk,hnc,hnb,_⟩:=hrel
 obtain ⟨_,_,h3,_,h5,_,h7,_,_,_,h11,_,_,_,h15,h16,_⟩:=ha
 obtain ⟨hn1,hn2,hn3⟩:=hsm
 have hn1:nc.length≤1000000:=hn1
 have hn2:nb.length≤1000000:=hn2
 have hn3:l.length≤1000000:=hn3
 dsimp only[strV]
 obtain ⟨XU,hXU⟩:∃ X:ByteArray,(⟨u.toArray⟩:ByteArray)=X:=⟨_,rfl⟩
 rw[hXU]
 clear hXU
 obtain ⟨p,HP⟩:∃ p,Hid (pointR a t (dup l)=p):=⟨_,hid rfl⟩
 have HR:Hid ((if p=0 then (if histT k nc nb=true then 8 else if riseB nb=false then 9 else if apartB mh mn gh gn=true then 11 else 0) else p)=r):=hid (by rw[←hr.out,←HP.out];rfl)
 clear hr
 have HK:=hid hk
 have HNC:=hid (nats_of_rels hnc)
 have HNB:=hid (nats_of_rels hnb)
 have HNBS:=hid h7
 have HK9:Hid (k<18446744073709551616):=hid h3
 have HL9:=hid h11
 have HMN:Hid (mn<2 ^ 64):=hid h15
 have HGN:Hid (gn<2 ^ 64):=hid h16
 clear hk hnc hnb h3 h5 h7 h11 h15 h16
 obtain ⟨bx,hbx⟩:∃ b,w.heap.size=b:=⟨_,rfl⟩
 obtain ⟨w1,hw1⟩:∃ W,w.alloc (.cells #[.slice lo l.length lc,.int .u64 (a:Int),.int .u64 (t:Int),.int .u64 (k:Int),.bool ph,.int .u64 (pn:Int),.bool mh,.int .u64 (mn:Int),.bool gh,.int .u64 (gn:Int),.slice nco nc.length ncc,.slice nbo nb.length nbc,.slice eo es.length ec,.int .u32 (f:Int),.string XU] 32)=W:=⟨_,rfl⟩
 have HBw1:Hid (Below w.heap.size w w1):=hid (by rw[←hw1];exact below_new _ _)
 have HXw1:Hid (w1.heap[bx]? = some (.cells #[.slice lo l.length lc,.int .u64 (a:Int),.int .u64 (t:Int),.int .u64 (k:Int),.bool ph,.int .u64 (pn:Int),.bool mh,.int .u64 (mn:Int),.bool gh,.int .u64 (gn:Int),.slice nco nc.length ncc,.slice nbo nb.length nbc,.slice eo es.length ec,.int .u32 (f:Int),.string XU] 32 (0,0))):=hid (by rw[←hw1,←hbx];exact heap_alloc_new w _)
 have HW:=hid hw1
 have HBX:=hid hbx
 clear hw1 hbx
 go_enter Try.func13,Try.ntmps13
 go_upto_region 1 with fail
 rw[HW.out,HBX.out]
 have hc0:w1.cell? ⟨bx,0,none⟩=some (.slice lo l.length lc):=row_cell HXw1.out (j:=0) rfl
 have hc1:w1.cell? ⟨bx,1,none⟩=some (.int .u64 (a:Int)):=row_cell HXw1.out (j:=1) rfl
 have hc2:w1.cell? ⟨bx,2,none⟩=some (.int .u64 (t:Int)):=row_cell HXw1.out (j:=2) rfl
 go_wp2_with fail
 clear hc0 hc1 hc2
 refine (point_any a t l lo lc P w1 (by omega) HL9.out (HK.out.below HBw1.out) HP).mono ?_;rintro e w2 ⟨rfl,hb⟩
 have HXw2:Hid (w2.heap[bx]? = some (.cells #[.slice lo l.length lc,.int .u64 (a:Int),.int .u64 (t:Int),.int .u64 (k:Int),.bool ph,.int .u64 (pn:Int),.bool mh,.int .u64 (mn:Int),.bool gh,.int .u64 (gn:Int),.slice nco nc.length ncc,.slice nbo nb.length nbc,.slice eo es.length ec,.int .u32 (f:Int),.string XU] 32 (0,0))):=hid ((hb.block _ (row_lt HXw1.out)).trans HXw1.out)
 have HBw2:Hid (Below w.heap.size w w2):=hid (below_step HBw1.out hb)
 clear hb
 by_cases hp:p=0
 case neg =>
  have hr2:r=p:=by rw[←HR.out,if_neg hp]
  subst hr2
  have d1:((r:Int) != 0)=true:=by rw[bne_iff_ne];omega
  have d2:(r != 0)=true:=by rw[bne_iff_ne];omega
  clear hp
  go_wp2_with fail
  go_ret
  exact ⟨rfl,HBw2.out⟩
 case pos =>
  subst hp
  have HR:Hid ((if histT k nc nb=true then 8 else if riseB nb=false then 9 else if apartB mh mn gh gn=true then 11 else 0)=r):=hid (by rw[←HR.out];rfl)
  by_cases hc:0<nc.length
  ·have d1:decide (0<nc.length)=true:=decide_eq_true hc
   have d0:0<nc.length:=hc
   have q1:IntKind.i64.wrap ((nb.length:Int)+1)=(nb.length:Int)+1:=IntWalk.i64_in _ (by omega)
   by_cases hm:nc.length=nb.length+1
   ·have d2:((nc.length:Int) != (nb.length:Int)+1)=false:=by rw[bne_eq_false_iff_eq];omega
    obtain ⟨tb,HTB⟩:∃ tb,Hid (decide (([nc]:List (List Nat)).flatten.sum=k)=tb):=⟨_,hid rfl⟩
    have HHT:Hid (histT k nc nb=!tb):=hid (by unfold histT;rw[←HTB.out,decide_eq_true (.inl hc:0<nc.length∨0<nb.length),decide_eq_false (by omega:¬nc.length≠nb.length+1)];simp)
    clear hm
    have hc3:w2.cell? ⟨bx,3,none⟩=some (.int .u64 (k:Int)):=row_cell HXw2.out (j:=3) rfl
    have hc10:w2.cell? ⟨bx,10,none⟩=some (.slice nco nc.length ncc):=row_cell HXw2.out (j:=10) rfl
    have hc11:w2.cell? ⟨bx,11,none⟩=some (.slice nbo nb.length nbc):=row_cell HXw2.out (j:=11) rfl
    go_wp2_with fail
    clear hc3 hc10 hc11
    refine (total_any k [nc] _ 1 _ HK9.out (by simp) (hid (fun q hq=>by rw[List.mem_singleton] at hq;rw[hq];omega)) (hid (lists_one (HNC.out.below HBw2.out) _)) HTB).mono ?_;rintro e w' ⟨rfl,rfl⟩
    obtain ⟨w3,hw3⟩:∃ W,w2.alloc (.cells #[.slice nco nc.length ncc] 30)=W:=⟨_,rfl⟩
    have hb3:Below w2.heap.size w2 w3:=by rw[←hw3];exact below_new _ _
    have HXw3:Hid (w3.heap[bx]? = some (.cells #[.slice lo l.length lc,.int .u64 (a:Int),.int .u64 (t:Int),.int .u64 (k:Int),.bool ph,.int .u64 (pn:Int),.bool mh,.int .u64 (mn:Int),.bool gh,.int .u64 (gn:Int),.slice nco nc.length ncc,.slice nbo nb.length nbc,.slice eo es.length ec,.int .u32 (f:Int),.string XU] 32 (0,0))):=hid ((hb3.block _ (row_lt HXw2.out)).trans HXw2.out)
    have HBw3:Hid (Below w.heap.size w w3):=hid (below_step HBw2.out hb3)
    rw[hw3]
    clear hb3 hw3
    cases tb with
    | false =>
     have hr2:r=8:=by rw[←HR.out,HHT.out];rfl
     subst hr2
     go_wp2_with fail
     go_ret
     exact ⟨rfl,HBw3.out⟩
    | true =>
     have HRT:Hid ((if riseB nb=false then 9 else if apartB mh mn gh gn=true then 11 else 0)=r):=hid (by rw[←HR.out,HHT.out];rfl)
     have hc11:w3.cell? ⟨bx,11,none⟩=some (.slice nbo nb.length nbc):=row_cell HXw3.out (j:=11) rfl
     obtain ⟨rb,HRB⟩:∃ rb,Hid (riseB nb=rb):=⟨_,hid rfl⟩
     go_wp2_with fail
     clear hc11
     refine (rise_any nb nbo nbc _ (by omega) HNBS.out (hid (HNB.out.below HBw3.out)) HRB).mono ?_;rintro e w8 ⟨rfl,hb⟩
     have HXw8:Hid (w8.heap[bx]? = some (.cells #[.slice lo l.length lc,.int .u64 (a:Int),.int .u64 (t:Int),.int .u64 (k:Int),.bool ph,.int .u64 (pn:Int),.bool mh,.int .u64 (mn:Int),.bool gh,.int .u64 (gn:Int),.slice nco nc.length ncc,.slice nbo nb.length nbc,.slice eo es.length ec,.int .u32 (f:Int),.string XU] 32 (0,0))):=hid ((hb.block _ (row_lt HXw3.out)).trans HXw3.out)
     have HBw8:Hid (Below w.heap.size w w8):=hid (below_step HBw3.out hb)
     clear hb
     cases rb with
     | false =>
      have hr2:r=9:=by
       rw[←HRT.out,HRB.out];simp
      subst hr2
      go_wp2_with fail
      go_ret
      exact ⟨rfl,HBw8.out⟩
     | true =>
      have hc6:w8.cell? ⟨bx,6,none⟩=some (.bool mh):=row_cell HXw8.out (j:=6) rfl
      have hc7:w8.cell? ⟨bx,7,none⟩=some (.int .u64 (mn:Int)):=row_cell HXw8.out (j:=7) rfl
      have hc8:w8.cell? ⟨bx,8,none⟩=some (.bool gh):=row_cell HXw8.out (j:=8) rfl
      have hc9:w8.cell? ⟨bx,9,none⟩=some (.int .u64 (gn:Int)):=row_cell HXw8.out (j:=9) rfl
      obtain ⟨ab,HAB⟩:∃ ab,Hid (apartB mh mn gh gn=ab):=⟨_,hid rfl⟩
      go_wp2_with fail
      clear hc6 hc7 hc8 hc9
      refine (apart_any mh gh mn gn _ HMN.out HGN.out HAB).mono ?_;rintro e w9 ⟨rfl,hb⟩
      have HXw9:Hid (w9.heap[bx]? = some (.cells #[.slice lo l.length lc,.int .u64 (a:Int),.int .u64 (t:Int),.int .u64 (k:Int),.bool ph,.int .u64 (pn:Int),.bool mh,.int .u64 (mn:Int),.bool gh,.int .u64 (gn:Int),.slice nco nc.length ncc,.slice nbo nb.length nbc,.slice eo es.length ec,.int .u32 (f:Int),.string XU] 32 (0,0))):=hid ((hb.block _ (row_lt HXw8.out)).trans HXw8.out)
      have HBw9:Hid (Below w.heap.size w w9):=hid (below_step HBw8.out hb)
      clear hb
      cases ab with
      | true =>
       have hr2:r=11:=by
        rw[←HRT.out,HRB.out,HAB.out];simp
       subst hr2
       go_wp2_with fail
       go_ret
       exact ⟨rfl,HBw9.out⟩
      | false =>
       have hr2:r=0:=by
        rw[←HRT.out,HRB.out,HAB.out];simp
       subst hr2
       go_wp2_with fail
       go_ret
       exact ⟨rfl,HBw9.out⟩
   ·have d2:((nc.length:Int) != (nb.length:Int)+1)=true:=by rw[bne_iff_ne];omega
    have hr2:r=8:=by
     rw[←HR.out]
     unfold histT
     rw[decide_eq_true (.inl hc:0<nc.length∨0<nb.length),decide_eq_true hm];rfl
    subst hr2
    clear hm
    have hc3:w2.cell? ⟨bx,3,none⟩=some (.int .u64 (k:Int)):=row_cell HXw2.out (j:=3) rfl
    have hc10:w2.cell? ⟨bx,10,none⟩=some (.slice nco nc.length ncc):=row_cell HXw2.out (j:=10) rfl
    have hc11:w2.cell? ⟨bx,11,none⟩=some (.slice nbo nb.length nbc):=row_cell HXw2.out (j:=11) rfl
    go_wp2_with fail
    go_ret
    exact ⟨rfl,HBw2.out⟩
  ·have d1:decide (0<nc.length)=false:=decide_eq_false hc
   have d0:¬0<nc.length:=hc
   have q1:IntKind.i64.wrap ((nb.length:Int)+1)=(nb.length:Int)+1:=IntWalk.i64_in _ (by omega)
   by_cases hm:0<nb.length
   ·have d2:decide (0<nb.length)=true:=decide_eq_true hm
    have d4:((nc.length:Int) != (nb.length:Int)+1)=true:=by rw[bne_iff_ne];omega
    have hr2:r=8:=by
     rw[←HR.out]
     unfold histT
     rw[decide_eq_true (.inr hm:0<nc.length∨0<nb.length),decide_eq_true (by omega:nc.length≠nb.length+1)];rfl
    subst hr2
    have hc3:w2.cell? ⟨bx,3,none⟩=some (.int .u64 (k:Int)):=row_cell HXw2.out (j:=3) rfl
    have hc10:w2.cell? ⟨bx,10,none⟩=some (.slice nco nc.length ncc):=row_cell HXw2.out (j:=10) rfl
    have hc11:w2.cell? ⟨bx,11,none⟩=some (.slice nbo nb.length nbc):=row_cell HXw2.out (j:=11) rfl
    go_wp2_with fail
    go_ret
    exact ⟨rfl,HBw2.out⟩
   ·have d2:decide (0<nb.length)=false:=decide_eq_false hm
    have d4:¬0<nb.length:=hm
    have HRT:Hid ((if riseB nb=false then 9 else if apartB mh mn gh gn=true then 11 else 0)=r):=hid (by
     rw[←HR.out]
     unfold histT
     rw[decide_eq_false (by omega:¬(0<nc.length∨0<nb.length))];rfl)
    have hc3:w2.cell? ⟨bx,3,none⟩=some (.int .u64 (k:Int)):=row_cell HXw2.out (j:=3) rfl
    have hc10:w2.cell? ⟨bx,10,none⟩=some (.slice nco nc.length ncc):=row_cell HXw2.out (j:=10) rfl
    have hc11:w2.cell? ⟨bx,11,none⟩=some (.slice nbo nb.length nbc):=row_cell HXw2.out (j:=11) rfl
    go_upto_region 7 with fail
    clear hc3 hc10 hc11
    have hc11:w2.cell? ⟨bx,11,none⟩=some (.slice nbo nb.length nbc):=row_cell HXw2.out (j:=11) rfl
    obtain ⟨rb,HRB⟩:∃ rb,Hid (riseB nb=rb):=⟨_,hid rfl⟩
    go_wp2_with fail
    clear hc11
    refine (rise_any nb nbo nbc _ (by omega) HNBS.out (hid (HNB.out.below HBw2.out)) HRB).mono ?_;rintro e w8 ⟨rfl,hb⟩
    have HXw8:Hid (w8.heap[bx]? = some (.cells #[.slice lo l.length lc,.int .u64 (a:Int),.int .u64 (t:Int),.int .u64 (k:Int),.bool ph,.int .u64 (pn:Int),.bool mh,.int .u64 (mn:Int),.bool gh,.int .u64 (gn:Int),.slice nco nc.length ncc,.slice nbo nb.length nbc,.slice eo es.length ec,.int .u32 (f:Int),.string XU] 32 (0,0))):=hid ((hb.block _ (row_lt HXw2.out)).trans HXw2.out)
    have HBw8:Hid (Below w.heap.size w w8):=hid (below_step HBw2.out hb)
    clear hb
    cases rb with
    | false =>
     have hr2:r=9:=by
      rw[←HRT.out,HRB.out];simp
     subst hr2
     go_wp2_with fail
     go_ret
     exact ⟨rfl,HBw8.out⟩
    | true =>
     have hc6:w8.cell? ⟨bx,6,none⟩=some (.bool mh):=row_cell HXw8.out (j:=6) rfl
     have hc7:w8.cell? ⟨bx,7,none⟩=some (.int .u64 (mn:Int)):=row_cell HXw8.out (j:=7) rfl
     have hc8:w8.cell? ⟨bx,8,none⟩=some (.bool gh):=row_cell HXw8.out (j:=8) rfl
     have hc9:w8.cell? ⟨bx,9,none⟩=some (.int .u64 (gn:Int)):=row_cell HXw8.out (j:=9) rfl
     obtain ⟨ab,HAB⟩:∃ ab,Hid (apartB mh mn gh gn=ab):=⟨_,hid rfl⟩
     go_wp2_with fail
     clear hc6 hc7 hc8 hc9
     refine (apart_any mh gh mn gn _ HMN.out HGN.out HAB).mono ?_;rintro e w9 ⟨rfl,hb⟩
     have HXw9:Hid (w9.heap[bx]? = some (.cells #[.slice lo l.length lc,.int .u64 (a:Int),.int .u64 (t:Int),.int .u64 (k:Int),.bool ph,.int .u64 (pn:Int),.bool mh,.int .u64 (mn:Int),.bool gh,.int .u64 (gn:Int),.slice nco nc.length ncc,.slice nbo nb.length nbc,.slice eo es.length ec,.int .u32 (f:Int),.string XU] 32 (0,0))):=hid ((hb.block _ (row_lt HXw8.out)).trans HXw8.out)
     have HBw9:Hid (Below w.heap.size w w9):=hid (below_step HBw8.out hb)
     clear hb
     cases ab with
     | true =>
      have hr2:r=11:=by
       rw[←HRT.out,HRB.out,HAB.out];simp
      subst hr2
      go_wp2_with fail
      go_ret
      exact ⟨rfl,HBw9.out⟩
     | false =>
      have hr2:r=0:=by
       rw[←HRT.out,HRB.out,HAB.out];simp
      subst hr2
      go_wp2_with fail
      go_ret
      exact ⟨rfl,HBw9.out⟩
end Go.Proofs.Ytmlghmjjlpioeaa
