/-
  check.Exp.
-/
import Derived.Test.YtmlghmjjlpioeaaCkPt
import Derived.Test.YtmlghmjjlpioeaaXpRel
set_option maxRecDepth 1000000
set_option maxHeartbeats 16000000
namespace Go.Proofs.Ytmlghmjjlpioeaa
open Go.RowKit
open Lib (hid)
def expS (sc:Int)(pb nb:Bk):Bool:=decide (sc < -10)||(decide (20<sc)||(beyondB pb.off pb.cs.length||beyondB nb.off nb.cs.length))
def expG (bm:Bool)(vm:Nat)(bg:Bool)(vg th:Nat):Bool:=apartB bm vm bg vg||(decide (Fm.cls th=4)||lessF th 0)
def expR:Xp→Nat
 | ((l,(a,(t,(k,(_,(sc,(zc,((_,pb,_),((_,nb,_),(_,(_,((bm,vm),((bg,vg),th))))))))))))),_)=>if pointR a t (dup l)=0 then (if ([[zc],pb.cs,nb.cs]:List (List Nat)).flatten.sum=k then (if expS sc pb nb=true then 10 else if expG bm vm bg vg th=true then 11 else 0) else 8) else pointR a t (dup l)
theorem nats_1 (w:World)(z:Nat)(T:TypeId):Nats .u64 (w.alloc (.cells #[.int .u64 (z:Int)] T)) (some ⟨w.heap.size,0,none⟩) [z]:=fun _=>⟨w.heap.size,0,rfl,by simp,fun j hj=>by
 have h0:j=0:=by simp at hj;omega
 subst h0
 exact row_cell (heap_alloc_new w _) (j:=0) rfl⟩
theorem lists_exp {w:World}{po no:Option Addr}{p n:List Nat}{pc nc:Nat}(z:Nat)(hp:Nats .u64 w po p)(hn:Nats .u64 w no n)(T U:TypeId):Lists ((w.alloc (.cells #[.int .u64 (z:Int)] T)).alloc (.cells #[.slice (some ⟨w.heap.size,0,none⟩) 1 1,.slice po p.length pc,.slice no n.length nc] U)) (some ⟨w.heap.size+1,0,none⟩) [[z],p,n]:=by
 have hb1:Below w.heap.size w (w.alloc (.cells #[.int .u64 (z:Int)] T)):=below_new _ _
 have h1:=nats_1 w z T
 have hp1:=hp.below hb1
 have hn1:=hn.below hb1
 have hrow:=heap_alloc_new (w.alloc (.cells #[.int .u64 (z:Int)] T)) (.cells #[.slice (some ⟨w.heap.size,0,none⟩) 1 1,.slice po p.length pc,.slice no n.length nc] U)
 rw[show (w.alloc (.cells #[.int .u64 (z:Int)] T)).heap.size=w.heap.size+1 by simp] at hrow
 intro j hj
 match j,hj with
 | 0,_=>exact ⟨w.heap.size+1,0,_,1,rfl,row_cell hrow (j:=0) rfl,h1.below (below_new _ _)⟩
 | 1,_=>exact ⟨w.heap.size+1,0,_,pc,rfl,row_cell hrow (j:=1) rfl,hp1.below (below_new _ _)⟩
 | 2,_=>exact ⟨w.heap.size+1,0,_,nc,rfl,row_cell hrow (j:=2) rfl,hn1.below (below_new _ _)⟩
theorem exp_any (x:Xp)(cs:List Value)(P:Nat→Prop)(w:World)(ha:xp_arg x)(hrel:xpCel.R w P x cs)(hsm:x.1.1.length≤1000000∧x.1.2.2.2.2.2.2.2.1.2.1.cs.length≤1000000∧x.1.2.2.2.2.2.2.2.2.1.2.1.cs.length≤1000000){r:Nat}(hr:Hid (expR x=r)) :
  Calls Try.prog 15 #[.agg cs.toArray] w fun e w'=>e = .returned (.int .i64 (r:Int))∧Below w.heap.size w w':=by
 obtain ⟨⟨l,⟨a,⟨t,⟨k,⟨⟨bp,vp⟩,⟨sc,⟨zc,⟨⟨gp,pb,pu⟩,⟨⟨gn,nb,nu⟩,⟨f,⟨es,⟨⟨bm,vm⟩,⟨⟨bg,vg⟩,th⟩⟩⟩⟩⟩⟩⟩⟩⟩⟩⟩⟩⟩,u⟩:=x
 obtain ⟨lo,lc,po,pc,no,nc,eo,ec,rfl,hk,hpn,hnn,_⟩:=hrel
 obtain ⟨h1,_,_,_,_,h6,_,h8,h9,h10,_,_,h13,_,_,_,_,_,h19,h20,h21,_⟩:=ha
 obtain ⟨hn3,hn1,hn2⟩:=hsm
 have hn1:pb.cs.length≤1000000:=hn1
 have hn2:nb.cs.length≤1000000:=hn2
 have hn3:l.length≤1000000:=hn3
 dsimp only[strV]
 obtain ⟨Xpu,h⟩:∃ X:ByteArray,(⟨pu.toArray⟩:ByteArray)=X:=⟨_,rfl⟩
 rw[h];clear h
 obtain ⟨Xnu,h⟩:∃ X:ByteArray,(⟨nu.toArray⟩:ByteArray)=X:=⟨_,rfl⟩
 rw[h];clear h
 obtain ⟨Xu,h⟩:∃ X:ByteArray,(⟨u.toArray⟩:ByteArray)=X:=⟨_,rfl⟩
 rw[h];clear h
 obtain ⟨p,HP⟩:∃ p,Hid (pointR a t (dup l)=p):=⟨_,hid rfl⟩
 have HR:Hid ((if p=0 then (if ([[zc],pb.cs,nb.cs]:List (List Nat)).flatten.sum=k then (if expS sc pb nb=true then 10 else if expG bm vm bg vg th=true then 11 else 0) else 8) else p)=r):=hid (by rw[←hr.out,←HP.out];rfl)
 clear hr
 have HK:=hid hk
 have HPN:=hid (nats_of_rels hpn)
 have HNN:=hid (nats_of_rels hnn)
 have HL9:=hid h1
 have HK9:Hid (k<18446744073709551616):=hid h6
 have HSC:=hid h8
 have HPO:Hid (-2147483648≤pb.off∧pb.off≤2147483647):=hid ⟨h10.lo,h10.hi⟩
 have HNO:Hid (-2147483648≤nb.off∧nb.off≤2147483647):=hid ⟨h13.lo,h13.hi⟩
 have HVM:Hid (vm<2 ^ 64):=hid h19
 have HVG:Hid (vg<2 ^ 64):=hid h20
 have HTH:Hid (th<2 ^ 64):=hid h21
 clear hk hpn hnn h1 h6 h8 h9 h10 h13 h19 h20 h21
 obtain ⟨bx,hbx⟩:∃ b,w.heap.size=b:=⟨_,rfl⟩
 obtain ⟨w1,hw1⟩:∃ W,w.alloc (.cells #[.slice lo l.length lc,.int .u64 (a:Int),.int .u64 (t:Int),.int .u64 (k:Int),.bool bp,.int .u64 (vp:Int),.bool bm,.int .u64 (vm:Int),.bool bg,.int .u64 (vg:Int),.int .i32 sc,.int .u64 (zc:Int),.bool gp,.int .i32 pb.off,.slice po pb.cs.length pc,.string Xpu,.bool gn,.int .i32 nb.off,.slice no nb.cs.length nc,.string Xnu,.slice eo es.length ec,.int .u32 (f:Int),.int .u64 (th:Int),.string Xu] 36)=W:=⟨_,rfl⟩
 have HBw1:Hid (Below w.heap.size w w1):=hid (by rw[←hw1];exact below_new _ _)
 have HXw1:Hid (w1.heap[bx]? = some (.cells #[.slice lo l.length lc,.int .u64 (a:Int),.int .u64 (t:Int),.int .u64 (k:Int),.bool bp,.int .u64 (vp:Int),.bool bm,.int .u64 (vm:Int),.bool bg,.int .u64 (vg:Int),.int .i32 sc,.int .u64 (zc:Int),.bool gp,.int .i32 pb.off,.slice po pb.cs.length pc,.string Xpu,.bool gn,.int .i32 nb.off,.slice no nb.cs.length nc,.string Xnu,.slice eo es.length ec,.int .u32 (f:Int),.int .u64 (th:Int),.string Xu] 36 (0,0))):=hid (by rw[←hw1,←hbx];exact heap_alloc_new w _)
 have HW:=hid hw1
 have HBX:=hid hbx
 clear hw1 hbx
 go_enter Try.func15,Try.ntmps15
 go_upto_region 1 with fail
 rw[HW.out,HBX.out]
 have hc0:w1.cell? ⟨bx,0,none⟩=some (.slice lo l.length lc):=row_cell HXw1.out (j:=0) rfl
 have hc1:w1.cell? ⟨bx,1,none⟩=some (.int .u64 (a:Int)):=row_cell HXw1.out (j:=1) rfl
 have hc2:w1.cell? ⟨bx,2,none⟩=some (.int .u64 (t:Int)):=row_cell HXw1.out (j:=2) rfl
 go_wp2_with fail
 clear hc0 hc1 hc2
 refine (point_any a t l lo lc P w1 (by omega) HL9.out (HK.out.below HBw1.out) HP).mono ?_;rintro e w2 ⟨rfl,hb⟩
 have HXw2:Hid (w2.heap[bx]? = some (.cells #[.slice lo l.length lc,.int .u64 (a:Int),.int .u64 (t:Int),.int .u64 (k:Int),.bool bp,.int .u64 (vp:Int),.bool bm,.int .u64 (vm:Int),.bool bg,.int .u64 (vg:Int),.int .i32 sc,.int .u64 (zc:Int),.bool gp,.int .i32 pb.off,.slice po pb.cs.length pc,.string Xpu,.bool gn,.int .i32 nb.off,.slice no nb.cs.length nc,.string Xnu,.slice eo es.length ec,.int .u32 (f:Int),.int .u64 (th:Int),.string Xu] 36 (0,0))):=hid ((hb.block _ (row_lt HXw1.out)).trans HXw1.out)
 have HBw2:Hid (Below w.heap.size w w2):=hid (below_step HBw1.out hb)
 clear hb
 by_cases hp:p=0
 case neg =>
  have hr2:r=p:=by rw[←HR.out,if_neg hp]
  subst hr2
  have d1:((r:Int) != 0)=true:=by rw[bne_iff_ne];omega
  have d2:(r != 0)=true:=by rw[bne_iff_ne];omega
  clear hp
  go_wp2_with fail
  go_ret
  exact ⟨rfl,HBw2.out⟩
 case pos =>
  subst hp
  have HRT:Hid ((if ([[zc],pb.cs,nb.cs]:List (List Nat)).flatten.sum=k then (if expS sc pb nb=true then 10 else if expG bm vm bg vg th=true then 11 else 0) else 8)=r):=hid (by rw[←HR.out];rfl)
  obtain ⟨tb,HTB⟩:∃ tb,Hid (decide (([[zc],pb.cs,nb.cs]:List (List Nat)).flatten.sum=k)=tb):=⟨_,hid rfl⟩
  have HLL:Hid (∀ q∈[[zc],pb.cs,nb.cs],q.length≤9223372036854775806):=hid (fun q hq=>by
   simp only[List.mem_cons,List.not_mem_nil,or_false] at hq
   rcases hq with rfl|rfl|rfl
   ·simp
   ·omega
   ·omega)
  have hc3:w2.cell? ⟨bx,3,none⟩=some (.int .u64 (k:Int)):=row_cell HXw2.out (j:=3) rfl
  have hc11:w2.cell? ⟨bx,11,none⟩=some (.int .u64 (zc:Int)):=row_cell HXw2.out (j:=11) rfl
  have hxa:(w2.alloc (.cells #[.int .u64 (zc:Int)] 23)).heap[bx]? = some (.cells #[.slice lo l.length lc,.int .u64 (a:Int),.int .u64 (t:Int),.int .u64 (k:Int),.bool bp,.int .u64 (vp:Int),.bool bm,.int .u64 (vm:Int),.bool bg,.int .u64 (vg:Int),.int .i32 sc,.int .u64 (zc:Int),.bool gp,.int .i32 pb.off,.slice po pb.cs.length pc,.string Xpu,.bool gn,.int .i32 nb.off,.slice no nb.cs.length nc,.string Xnu,.slice eo es.length ec,.int .u32 (f:Int),.int .u64 (th:Int),.string Xu] 36 (0,0)):=(Below.heap_alloc _ _ _ (row_lt HXw2.out)).trans HXw2.out
  have ha14:(w2.alloc (.cells #[.int .u64 (zc:Int)] 23)).cell? ⟨bx,14,none⟩=some (.slice po pb.cs.length pc):=row_cell hxa (j:=14) rfl
  have ha18:(w2.alloc (.cells #[.int .u64 (zc:Int)] 23)).cell? ⟨bx,18,none⟩=some (.slice no nb.cs.length nc):=row_cell hxa (j:=18) rfl
  clear hxa
  go_wp2_with fail
  clear hc3 hc11 ha14 ha18
  refine (total_any k [[zc],pb.cs,nb.cs] _ 3 _ HK9.out (by simp) HLL (hid (lists_exp zc (HPN.out.below HBw2.out) (HNN.out.below HBw2.out) _ _)) HTB).mono ?_;rintro e w' ⟨rfl,rfl⟩
  obtain ⟨w3,hw3⟩:∃ W,(w2.alloc (.cells #[.int .u64 (zc:Int)] 23)).alloc (.cells #[.slice (some ⟨w2.heap.size,0,none⟩) 1 1,.slice po pb.cs.length pc,.slice no nb.cs.length nc] 30)=W:=⟨_,rfl⟩
  have hb3:Below w2.heap.size w2 w3:=by rw[←hw3];exact below_step (below_new _ _) (below_new _ _)
  have HXw3:Hid (w3.heap[bx]? = some (.cells #[.slice lo l.length lc,.int .u64 (a:Int),.int .u64 (t:Int),.int .u64 (k:Int),.bool bp,.int .u64 (vp:Int),.bool bm,.int .u64 (vm:Int),.bool bg,.int .u64 (vg:Int),.int .i32 sc,.int .u64 (zc:Int),.bool gp,.int .i32 pb.off,.slice po pb.cs.length pc,.string Xpu,.bool gn,.int .i32 nb.off,.slice no nb.cs.length nc,.string Xnu,.slice eo es.length ec,.int .u32 (f:Int),.int .u64 (th:Int),.string Xu] 36 (0,0))):=hid ((hb3.block _ (row_lt HXw2.out)).trans HXw2.out)
  have HBw3:Hid (Below w.heap.size w w3):=hid (below_step HBw2.out hb3)
  rw[hw3]
  clear hb3 hw3
  cases tb with
  | false =>
   have hr2:r=8:=by rw[←HRT.out,if_neg (of_decide_eq_false HTB.out)]
   subst hr2
   go_wp2_with fail
   go_ret
   exact ⟨rfl,HBw3.out⟩
  | true =>
   have HRS:Hid ((if expS sc pb nb=true then 10 else if expG bm vm bg vg th=true then 11 else 0)=r):=hid (by rw[←HRT.out,if_pos (of_decide_eq_true HTB.out)])
   have hc10:w3.cell? ⟨bx,10,none⟩=some (.int .i32 sc):=row_cell HXw3.out (j:=10) rfl
   have hc13:w3.cell? ⟨bx,13,none⟩=some (.int .i32 pb.off):=row_cell HXw3.out (j:=13) rfl
   have hc14:w3.cell? ⟨bx,14,none⟩=some (.slice po pb.cs.length pc):=row_cell HXw3.out (j:=14) rfl
   have hc15:w3.cell? ⟨bx,15,none⟩=some (.string Xpu):=row_cell HXw3.out (j:=15) rfl
   have hc17:w3.cell? ⟨bx,17,none⟩=some (.int .i32 nb.off):=row_cell HXw3.out (j:=17) rfl
   have hc18:w3.cell? ⟨bx,18,none⟩=some (.slice no nb.cs.length nc):=row_cell HXw3.out (j:=18) rfl
   have hc19:w3.cell? ⟨bx,19,none⟩=some (.string Xnu):=row_cell HXw3.out (j:=19) rfl
   by_cases s1:sc < -10
   ·have d1:decide (sc < -10)=true:=decide_eq_true s1
    have HS:Hid (expS sc pb nb=true):=hid (by unfold expS;rw[d1];rfl)
    have hr2:r=10:=by rw[←HRS.out,HS.out];rfl
    subst hr2
    go_wp2_with fail
    go_ret
    exact ⟨rfl,HBw3.out⟩
   ·have d1:decide (sc < -10)=false:=decide_eq_false s1
    by_cases s2:20<sc
    ·have d2:decide (20<sc)=true:=decide_eq_true s2
     have HS:Hid (expS sc pb nb=true):=hid (by unfold expS;rw[d1,d2];rfl)
     have hr2:r=10:=by rw[←HRS.out,HS.out];rfl
     subst hr2
     go_wp2_with fail
     go_ret
     exact ⟨rfl,HBw3.out⟩
    ·have d2:decide (20<sc)=false:=decide_eq_false s2
     obtain ⟨b1,HB1⟩:∃ b1,Hid (beyondB pb.off pb.cs.length=b1):=⟨_,hid rfl⟩
     go_wp2_with fail
     clear hc10 hc13 hc14 hc15 hc17 hc18 hc19
     refine (beyond_any pb.off pb.cs.length po pc Xpu _ HPO.out hn1 HB1).mono ?_;rintro e w4 ⟨rfl,hb⟩
     have HXw4:Hid (w4.heap[bx]? = some (.cells #[.slice lo l.length lc,.int .u64 (a:Int),.int .u64 (t:Int),.int .u64 (k:Int),.bool bp,.int .u64 (vp:Int),.bool bm,.int .u64 (vm:Int),.bool bg,.int .u64 (vg:Int),.int .i32 sc,.int .u64 (zc:Int),.bool gp,.int .i32 pb.off,.slice po pb.cs.length pc,.string Xpu,.bool gn,.int .i32 nb.off,.slice no nb.cs.length nc,.string Xnu,.slice eo es.length ec,.int .u32 (f:Int),.int .u64 (th:Int),.string Xu] 36 (0,0))):=hid ((hb.block _ (row_lt HXw3.out)).trans HXw3.out)
     have HBw4:Hid (Below w.heap.size w w4):=hid (below_step HBw3.out hb)
     clear hb
     have hc17:w4.cell? ⟨bx,17,none⟩=some (.int .i32 nb.off):=row_cell HXw4.out (j:=17) rfl
     have hc18:w4.cell? ⟨bx,18,none⟩=some (.slice no nb.cs.length nc):=row_cell HXw4.out (j:=18) rfl
     have hc19:w4.cell? ⟨bx,19,none⟩=some (.string Xnu):=row_cell HXw4.out (j:=19) rfl
     cases b1 with
     | true =>
      have HS:Hid (expS sc pb nb=true):=hid (by unfold expS;rw[d1,d2,HB1.out];rfl)
      have hr2:r=10:=by rw[←HRS.out,HS.out];rfl
      subst hr2
      go_wp2_with fail
      go_ret
      exact ⟨rfl,HBw4.out⟩
     | false =>
      obtain ⟨b2,HB2⟩:∃ b2,Hid (beyondB nb.off nb.cs.length=b2):=⟨_,hid rfl⟩
      have HS:Hid (expS sc pb nb=b2):=hid (by unfold expS;rw[d1,d2,HB1.out,HB2.out];rfl)
      go_wp2_with fail
      clear hc17 hc18 hc19 d1 d2 s1 s2
      refine (beyond_any nb.off nb.cs.length no nc Xnu _ HNO.out hn2 HB2).mono ?_;rintro e w5 ⟨rfl,hb⟩
      have HXw5:Hid (w5.heap[bx]? = some (.cells #[.slice lo l.length lc,.int .u64 (a:Int),.int .u64 (t:Int),.int .u64 (k:Int),.bool bp,.int .u64 (vp:Int),.bool bm,.int .u64 (vm:Int),.bool bg,.int .u64 (vg:Int),.int .i32 sc,.int .u64 (zc:Int),.bool gp,.int .i32 pb.off,.slice po pb.cs.length pc,.string Xpu,.bool gn,.int .i32 nb.off,.slice no nb.cs.length nc,.string Xnu,.slice eo es.length ec,.int .u32 (f:Int),.int .u64 (th:Int),.string Xu] 36 (0,0))):=hid ((hb.block _ (row_lt HXw4.out)).trans HXw4.out)
      have HBw5:Hid (Below w.heap.size w w5):=hid (below_step HBw4.out hb)
      clear hb
      cases b2 with
      | true =>
       have hr2:r=10:=by rw[←HRS.out,HS.out];rfl
       subst hr2
       go_wp2_with fail
       go_ret
       exact ⟨rfl,HBw5.out⟩
      | false =>
       have HRG:Hid ((if expG bm vm bg vg th=true then 11 else 0)=r):=hid (by rw[←HRS.out,HS.out];rfl)
       have hc6:w5.cell? ⟨bx,6,none⟩=some (.bool bm):=row_cell HXw5.out (j:=6) rfl
       have hc7:w5.cell? ⟨bx,7,none⟩=some (.int .u64 (vm:Int)):=row_cell HXw5.out (j:=7) rfl
       have hc8:w5.cell? ⟨bx,8,none⟩=some (.bool bg):=row_cell HXw5.out (j:=8) rfl
       have hc9:w5.cell? ⟨bx,9,none⟩=some (.int .u64 (vg:Int)):=row_cell HXw5.out (j:=9) rfl
       obtain ⟨ab,HAB⟩:∃ ab,Hid (apartB bm vm bg vg=ab):=⟨_,hid rfl⟩
       go_upto_region 8 with fail
       go_wp2_with fail
       clear hc6 hc7 hc8 hc9
       refine (apart_any bm bg vm vg _ HVM.out HVG.out HAB).mono ?_;rintro e w9 ⟨rfl,hb⟩
       have HXw9:Hid (w9.heap[bx]? = some (.cells #[.slice lo l.length lc,.int .u64 (a:Int),.int .u64 (t:Int),.int .u64 (k:Int),.bool bp,.int .u64 (vp:Int),.bool bm,.int .u64 (vm:Int),.bool bg,.int .u64 (vg:Int),.int .i32 sc,.int .u64 (zc:Int),.bool gp,.int .i32 pb.off,.slice po pb.cs.length pc,.string Xpu,.bool gn,.int .i32 nb.off,.slice no nb.cs.length nc,.string Xnu,.slice eo es.length ec,.int .u32 (f:Int),.int .u64 (th:Int),.string Xu] 36 (0,0))):=hid ((hb.block _ (row_lt HXw5.out)).trans HXw5.out)
       have HBw9:Hid (Below w.heap.size w w9):=hid (below_step HBw5.out hb)
       clear hb
       cases ab with
       | true =>
        have hr2:r=11:=by
         rw[←HRG.out];unfold expG;rw[HAB.out];rfl
        subst hr2
        go_wp2_with fail
        go_ret
        exact ⟨rfl,HBw9.out⟩
       | false =>
        have hc22:w9.cell? ⟨bx,22,none⟩=some (.int .u64 (th:Int)):=row_cell HXw9.out (j:=22) rfl
        obtain ⟨c,HC⟩:∃ c:Int,Hid (c=(Fm.cls th:Nat)):=⟨_,hid rfl⟩
        by_cases h4:Fm.cls th=4
        ·have e1:(c == 4)=true:=by rw[HC.out,h4];rfl
         have HG:Hid (expG bm vm bg vg th=true):=hid (by unfold expG;rw[decide_eq_true h4];simp)
         clear h4
         go_wp2_with fail
         refine (class_is th _ HTH.out HC).mono ?_;rintro e w' ⟨rfl,rfl⟩
         have hr2:r=11:=by
          rw[←HRG.out,HG.out];rfl
         subst hr2
         go_wp2_with fail
         go_ret
         exact ⟨rfl,HBw9.out⟩
        ·have e1:(c == 4)=false:=by rw[HC.out];simp;omega
         obtain ⟨lb,HLB⟩:∃ lb,Hid (lessF th 0=lb):=⟨_,hid rfl⟩
         have HG:Hid (expG bm vm bg vg th=lb):=hid (by unfold expG;rw[HAB.out,decide_eq_false h4,HLB.out];rfl)
         clear h4
         go_wp2_with fail
         refine (class_is th _ HTH.out HC).mono ?_;rintro e w' ⟨rfl,rfl⟩
         go_wp2_with fail
         refine (less_any th 0 _ HTH.out (by decide) HLB).mono ?_;rintro e w' ⟨rfl,rfl⟩
         cases lb with
         | true =>
          have hr2:r=11:=by
           rw[←HRG.out,HG.out];rfl
          subst hr2
          go_wp2_with fail
          go_ret
          exact ⟨rfl,HBw9.out⟩
         | false =>
          have hr2:r=0:=by
           rw[←HRG.out,HG.out];rfl
          subst hr2
          go_wp2_with fail
          go_ret
          exact ⟨rfl,HBw9.out⟩
end Go.Proofs.Ytmlghmjjlpioeaa
