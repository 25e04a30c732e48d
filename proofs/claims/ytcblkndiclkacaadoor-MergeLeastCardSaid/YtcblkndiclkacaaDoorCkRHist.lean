/-
  CkRises, CkRHist
-/
import Derived.Test.YtcblkndiclkacaaDoorCkRef
import Derived.Test.YtcblkndiclkacaaDoorOrd
import Derived.Test.YtcblkndiclkacaaDoorCkHist
import Derived.Test.YtcblkndiclkacaaDoorCkRTw
set_option maxRecDepth 1000000
set_option maxHeartbeats 16000000
namespace Go.Proofs.YtcblkndiclkacaaDoor
open Go.RowKit
theorem rises_any (l:List Nat) (ao:Option Addr) (cap:Nat) (w:World) (hl:l.length≤9223372036854775806) (hb:∀ n∈l,n<18446744073709551616) (h:Hid (Nats .u64 w ao l)) {r:Bool} (hr:Hid (riseB l=r)) :
  Calls Tryd.prog 52 #[.slice ao l.length cap] w fun e w'=>e = .returned (.bool r)∧Below w.heap.size w w':=by
 have HB:=Lib.hid hb
 clear hb
 go_enter Tryd.func52,Tryd.ntmps52
 go_wp2_with fail
 go_loopg [3] l.length (fun k i wr=>∃ j:Nat,i = .int .i64 (j:Int)∧j+k=l.length∧Below w.heap.size w wr∧Hid (∀ m,m<j→riseAt l m=true))
 case atStart=>exact ⟨0,rfl,by omega,Below.refl _ _,Lib.hid (fun m hm=>by omega)⟩
 case round =>
  obtain ⟨j,rfl,hj,hbr,HM⟩:=hrel
  have HBR:=Lib.hid hbr
  have HJ:=Lib.hid hj
  clear hj hbr
  by_cases hlt:j<l.length
  ·have HN:=Lib.hid (h.out.below HBR.out)
   obtain ⟨g,off,x,HX,rfl,hbl,hc⟩:=nats_getD HN.out hlt
   have hx9:x<2 ^ 64:=by rw[HX.out];exact getD_lt HB.out j
   have q9:IntKind.i64.wrap ((j:Int)+1)=(j:Int)+1:=IntWalk.i64_in _ (by omega)
   obtain ⟨c,HC⟩:∃ c:Int,Hid (c=(Fm.cls x:Nat)):=⟨_,Lib.hid rfl⟩
   have HRJ:Hid (riseAt l j=(decide (Fm.cls x≠4)&&(decide (j=0)||lessF (l.getD (j - 1) 0) x))):=Lib.hid (by unfold riseAt;rw[←HX.out])
   have hI:Below wr.heap.size wr wr.drew:=(Below.refl _ _).drew
   have hne:Nonempty { w':World // Below wr.heap.size wr w' }:=⟨⟨_,hI⟩⟩
   have hc3:∀ t:{ w':World // Below wr.heap.size wr w' },t.1.cell? ⟨g,off+j,none⟩=some (.int .u64 (x:Int)):=fun t=>(t.2.cell (p:=⟨g,off+j,none⟩) hbl).trans hc
   by_cases h4:Fm.cls x=4
   ·have e1:(c == 4)=true:=by rw[HC.out,h4];rfl
    have hr2:r=false:=by
     rw[←hr.out]
     refine decide_eq_false fun e=>?_
     have h1:=e j hlt
     rw[HRJ.out,h4] at h1
     simp at h1
    subst hr2
    clear h4
    have hc4:True:=trivial
    go_wp2_with fail
    refine wp_region_seq (S:=fun w'=>Below wr.heap.size wr w') [(0,true),(1,true),(2,true),(3,true),(4,false),(5,true),(6,true),(7,true),(8,true),(9,true),(10,true),(11,true),(12,true),(13,true),(14,true),(15,true),(16,true),(17,true),(18,true),(19,false),(20,true),(21,true),(22,true)] (by kernel_rfl) (by kernel_rfl) (by kernel_rfl) (by kernel_rfl) hI ?_
    iterate 4 (refine seq_take _ rfl (fun KC hK=>?_);go_simp;(first|refine hK _ ?_|refine ⟨_,fun _ _=>rfl,hK _ ?_⟩|refine ⟨undef,by first|rfl|simp,hK _ ?_⟩);clear hK KC)
    refine seq_come _ rfl (fun KC hK=>?_);go_simp
    refine (rclass_is x wr.drew hx9 HC).mono ?_;rintro e w' ⟨rfl,rfl⟩
    go_simp
    refine hK.out _ _ hI ?_;clear hK KC
    iterate 14 (refine seq_take _ rfl (fun KC hK=>?_);go_simp;(first|refine hK _ ?_|refine ⟨_,fun _ _=>rfl,hK _ ?_⟩|refine ⟨undef,by first|rfl|simp,hK _ ?_⟩);clear hK KC)
    refine seq_come _ rfl (fun KC hK=>?_);go_simp
    refine hK.out _ _ hI ?_;clear hK KC
    iterate 3 (refine seq_take _ rfl (fun KC hK=>?_);go_simp;(first|refine hK _ ?_|refine ⟨_,fun _ _=>rfl,hK _ ?_⟩|refine ⟨undef,by first|rfl|simp,hK _ ?_⟩);clear hK KC)
    refine seq_done ?_
    clear hc3 hc4
    go_wp2_with fail
    go_ret
    exact ⟨rfl,HBR.out.trans (hI.mono HBR.out.size)⟩
   ·have e1:(c == 4)=false:=by rw[HC.out];simp;omega
    by_cases h0:j=0
    ·have HN2:Hid (∀ m,m<j+1→riseAt l m=true):=Lib.hid (fun m hm=>by
      by_cases hmj:m=j
      ·rw[hmj,HRJ.out,decide_eq_true h4,decide_eq_true h0];rfl
      ·exact HM.out m (by omega))
     have d2:decide (0<j)=false:=decide_eq_false (by omega)
     have d3:¬0<j:=by omega
     clear h4 h0
     have hc4:True:=trivial
     go_wp2_with fail
     refine wp_region_seq (S:=fun w'=>Below wr.heap.size wr w') [(0,true),(1,true),(2,true),(3,true),(4,false),(5,true),(6,true),(7,true),(8,true),(9,true),(10,true),(11,true),(12,true),(13,true),(14,true),(15,true),(16,true),(17,true),(18,true),(19,false),(20,true),(21,true),(22,true)] (by kernel_rfl) (by kernel_rfl) (by kernel_rfl) (by kernel_rfl) hI ?_
     iterate 4 (refine seq_take _ rfl (fun KC hK=>?_);go_simp;(first|refine hK _ ?_|refine ⟨_,fun _ _=>rfl,hK _ ?_⟩|refine ⟨undef,by first|rfl|simp,hK _ ?_⟩);clear hK KC)
     refine seq_come _ rfl (fun KC hK=>?_);go_simp
     refine (rclass_is x wr.drew hx9 HC).mono ?_;rintro e w' ⟨rfl,rfl⟩
     go_simp
     refine hK.out _ _ hI ?_;clear hK KC
     iterate 14 (refine seq_take _ rfl (fun KC hK=>?_);go_simp;(first|refine hK _ ?_|refine ⟨_,fun _ _=>rfl,hK _ ?_⟩|refine ⟨undef,by first|rfl|simp,hK _ ?_⟩);clear hK KC)
     refine seq_come _ rfl (fun KC hK=>?_);go_simp
     refine hK.out _ _ hI ?_;clear hK KC
     iterate 3 (refine seq_take _ rfl (fun KC hK=>?_);go_simp;(first|refine hK _ ?_|refine ⟨_,fun _ _=>rfl,hK _ ?_⟩|refine ⟨undef,by first|rfl|simp,hK _ ?_⟩);clear hK KC)
     refine seq_done ?_
     clear hc3 hc4
     go_wp2_with fail
     have hj:=HJ.out
     go_roundg (gk - 1)
     case measure=>omega
     case rel=>exact ⟨j+1,by simp,by omega,HBR.out.trans (hI.mono HBR.out.size),HN2⟩
    ·obtain ⟨g2,off2,y,HY,he,_,hc2⟩:=nats_getD HN.out (show j - 1<l.length by omega)
     simp only[Option.some.injEq,Addr.mk.injEq] at he
     obtain ⟨rfl,rfl,_⟩:=he
     have hy9:y<2 ^ 64:=by rw[HY.out];exact getD_lt HB.out _
     have q1:IntKind.i64.wrap ((j:Int) - 1)=((j - 1:Nat):Int):=by rw[IntWalk.i64_in _ (by omega)];omega
     have d2:decide (0<j)=true:=decide_eq_true (by omega)
     have d3:0<j:=by omega
     have d4:j - 1<l.length:=by omega
     obtain ⟨b,HBL⟩:∃ b,Hid (lessF y x=b):=⟨_,Lib.hid rfl⟩
     have HRJ2:Hid (riseAt l j=b):=Lib.hid (by rw[HRJ.out,decide_eq_true h4,decide_eq_false h0,←HY.out,HBL.out];rfl)
     have hc4:∀ t:{ w':World // Below wr.heap.size wr w' },t.1.cell? ⟨g,off+(j - 1),none⟩=some (.int .u64 (y:Int)):=fun t=>(t.2.cell (p:=⟨g,off+(j - 1),none⟩) hbl).trans hc2
     clear h4 h0
     go_wp2_with fail
     refine wp_region_seq (S:=fun w'=>Below wr.heap.size wr w') [(0,true),(1,true),(2,true),(3,true),(4,false),(5,true),(6,true),(7,true),(8,true),(9,true),(10,true),(11,true),(12,true),(13,true),(14,true),(15,true),(16,true),(17,true),(18,true),(19,false),(20,true),(21,true),(22,true)] (by kernel_rfl) (by kernel_rfl) (by kernel_rfl) (by kernel_rfl) hI ?_
     iterate 4 (refine seq_take _ rfl (fun KC hK=>?_);go_simp;(first|refine hK _ ?_|refine ⟨_,fun _ _=>rfl,hK _ ?_⟩|refine ⟨undef,by first|rfl|simp,hK _ ?_⟩);clear hK KC)
     refine seq_come _ rfl (fun KC hK=>?_);go_simp
     refine (rclass_is x wr.drew hx9 HC).mono ?_;rintro e w' ⟨rfl,rfl⟩
     go_simp
     refine hK.out _ _ hI ?_;clear hK KC
     iterate 14 (refine seq_take _ rfl (fun KC hK=>?_);go_simp;(first|refine hK _ ?_|refine ⟨_,fun _ _=>rfl,hK _ ?_⟩|refine ⟨undef,by first|rfl|simp,hK _ ?_⟩);clear hK KC)
     refine seq_come _ rfl (fun KC hK=>?_);go_simp
     refine (rless_any y x wr.drew hy9 hx9 HBL).mono ?_;rintro e w' ⟨rfl,rfl⟩
     go_simp
     refine hK.out _ _ hI ?_;clear hK KC
     iterate 3 (refine seq_take _ rfl (fun KC hK=>?_);go_simp;(first|refine hK _ ?_|refine ⟨_,fun _ _=>rfl,hK _ ?_⟩|refine ⟨undef,by first|rfl|simp,hK _ ?_⟩);clear hK KC)
     refine seq_done ?_
     clear hc3 hc4
     cases b with
     | true =>
      have HN2:Hid (∀ m,m<j+1→riseAt l m=true):=Lib.hid (fun m hm=>by
       by_cases hmj:m=j
       ·rw[hmj,HRJ2.out]
       ·exact HM.out m (by omega))
      go_wp2_with fail
      have hj:=HJ.out
      go_roundg (gk - 1)
      case measure=>omega
      case rel=>exact ⟨j+1,by simp,by omega,HBR.out.trans (hI.mono HBR.out.size),HN2⟩
     | false =>
      have hr2:r=false:=by
       rw[←hr.out]
       refine decide_eq_false fun e=>?_
       have h1:=e j hlt
       rw[HRJ2.out] at h1
       cases h1
      subst hr2
      go_wp2_with fail
      go_ret
      exact ⟨rfl,HBR.out.trans (hI.mono HBR.out.size)⟩
  ·have hr2:r=true:=by
    rw[←hr.out]
    exact decide_eq_true fun i hi=>HM.out i (by have:=HJ.out;omega)
   subst hr2
   go_wp2_with fail
   go_ret
   exact ⟨rfl,HBR.out⟩
open Go.RowKit
theorem rhist_any (x:Hi) (cs:List Value) (P:Nat→Prop) (w:World) (ha:hi_arg x) (hrel:hiCel.R w P x cs) (hsm:x.1.2.2.2.2.1.length≤1000000∧x.1.2.2.2.2.2.1.length≤1000000∧x.1.2.2.2.2.2.2.2.1.length≤1000000) {r:Nat} (hr:Hid (histR x=r)) :
  Calls Tryd.prog 25 #[.agg cs.toArray] w fun e w'=>e = .returned (.int .i64 (r:Int))∧Below w.heap.size w w':=by
 obtain ⟨⟨a,⟨t,⟨k,⟨⟨ph,pn⟩,⟨nc,⟨nb,⟨es,⟨l,⟨f,⟨⟨mh,mn⟩,⟨gh,gn⟩⟩⟩⟩⟩⟩⟩⟩⟩⟩⟩,u⟩:=x
 obtain ⟨lo,lc,nco,ncc,nbo,nbc,eo,ec,rfl,hk,hnc,hnb,_⟩:=hrel
 obtain ⟨_,_,h3,_,h5,_,h7,_,_,_,h11,_,_,_,h15,h16,_⟩:=ha
 obtain ⟨hn1,hn2,hn3⟩:=hsm
 have hn1:nc.length≤1000000:=hn1
 have hn2:nb.length≤1000000:=hn2
 have hn3:l.length≤1000000:=hn3
 dsimp only[strV]
 obtain ⟨XU,hXU⟩:∃ X:ByteArray,(⟨u.toArray⟩:ByteArray)=X:=⟨_,rfl⟩
 rw[hXU]
 clear hXU
 obtain ⟨p,HP⟩:∃ p,Hid (pointR a t (dup l)=p):=⟨_,Lib.hid rfl⟩
 have HR:Hid ((if p=0 then (if histT k nc nb=true then 8 else if riseB nb=false then 9 else if apartB mh mn gh gn=true then 11 else 0) else p)=r):=Lib.hid (by rw[←hr.out,←HP.out];rfl)
 clear hr
 have HK:=Lib.hid hk
 have HNC:=Lib.hid (nats_of_rels hnc)
 have HNB:=Lib.hid (nats_of_rels hnb)
 have HNBS:=Lib.hid h7
 have HK9:Hid (k<18446744073709551616):=Lib.hid h3
 have HL9:=Lib.hid h11
 have HMN:Hid (mn<2 ^ 64):=Lib.hid h15
 have HGN:Hid (gn<2 ^ 64):=Lib.hid h16
 clear hk hnc hnb h3 h5 h7 h11 h15 h16
 obtain ⟨bx,hbx⟩:∃ b,w.heap.size=b:=⟨_,rfl⟩
 obtain ⟨w1,hw1⟩:∃ W,w.alloc (.cells #[.slice lo l.length lc,.int .u64 (a:Int),.int .u64 (t:Int),.int .u64 (k:Int),.bool ph,.int .u64 (pn:Int),.bool mh,.int .u64 (mn:Int),.bool gh,.int .u64 (gn:Int),.slice nco nc.length ncc,.slice nbo nb.length nbc,.slice eo es.length ec,.int .u32 (f:Int),.string XU] 56)=W:=⟨_,rfl⟩
 have HBw1:Hid (Below w.heap.size w w1):=Lib.hid (by rw[←hw1];exact below_new _ _)
 have HXw1:Hid (w1.heap[bx]? = some (.cells #[.slice lo l.length lc,.int .u64 (a:Int),.int .u64 (t:Int),.int .u64 (k:Int),.bool ph,.int .u64 (pn:Int),.bool mh,.int .u64 (mn:Int),.bool gh,.int .u64 (gn:Int),.slice nco nc.length ncc,.slice nbo nb.length nbc,.slice eo es.length ec,.int .u32 (f:Int),.string XU] 56 (0,0))):=Lib.hid (by rw[←hw1,←hbx];exact heap_alloc_new w _)
 have HW:=Lib.hid hw1
 have HBX:=Lib.hid hbx
 clear hw1 hbx
 go_enter Tryd.func25,Tryd.ntmps25
 go_upto_region 1 with fail
 rw[HW.out,HBX.out]
 have hc0:w1.cell? ⟨bx,0,none⟩=some (.slice lo l.length lc):=row_cell HXw1.out (j:=0) rfl
 have hc1:w1.cell? ⟨bx,1,none⟩=some (.int .u64 (a:Int)):=row_cell HXw1.out (j:=1) rfl
 have hc2:w1.cell? ⟨bx,2,none⟩=some (.int .u64 (t:Int)):=row_cell HXw1.out (j:=2) rfl
 go_wp2_with fail
 clear hc0 hc1 hc2
 refine (base_any a t l lo lc P w1 (by omega) HL9.out (HK.out.below HBw1.out) HP).mono ?_;rintro e w2 ⟨rfl,hb⟩
 have HXw2:Hid (w2.heap[bx]? = some (.cells #[.slice lo l.length lc,.int .u64 (a:Int),.int .u64 (t:Int),.int .u64 (k:Int),.bool ph,.int .u64 (pn:Int),.bool mh,.int .u64 (mn:Int),.bool gh,.int .u64 (gn:Int),.slice nco nc.length ncc,.slice nbo nb.length nbc,.slice eo es.length ec,.int .u32 (f:Int),.string XU] 56 (0,0))):=Lib.hid ((hb.block _ (row_lt HXw1.out)).trans HXw1.out)
 have HBw2:Hid (Below w.heap.size w w2):=Lib.hid (below_step HBw1.out hb)
 clear hb
 by_cases hp:p=0
 case neg =>
  have hr2:r=p:=by rw[←HR.out,if_neg hp]
  subst hr2
  have d1:decide (0<r)=true:=decide_eq_true (by omega)
  have d2:0<r:=by omega
  clear hp
  go_wp2_with fail
  go_ret
  exact ⟨rfl,HBw2.out⟩
 case pos =>
  subst hp
  have HR:Hid ((if histT k nc nb=true then 8 else if riseB nb=false then 9 else if apartB mh mn gh gn=true then 11 else 0)=r):=Lib.hid (by rw[←HR.out];rfl)
  have q2:IntKind.i64.wrap ((nc.length:Int)+(nb.length:Int))=(nc.length:Int)+(nb.length:Int):=IntWalk.i64_in _ (by omega)
  have q1:IntKind.i64.wrap ((nb.length:Int)+1)=(nb.length:Int)+1:=IntWalk.i64_in _ (by omega)
  by_cases hc:0<nc.length+nb.length
  ·have d1:decide ((0:Int)<(nc.length:Int)+(nb.length:Int))=true:=decide_eq_true (by omega)
   have d0:(0:Int)<(nc.length:Int)+(nb.length:Int):=by omega
   have d3:decide (0<nc.length+nb.length)=true:=decide_eq_true hc
   by_cases hm:nc.length=nb.length+1
   ·have d2:((nc.length:Int) != (nb.length:Int)+1)=false:=by rw[bne_eq_false_iff_eq];omega
    obtain ⟨tb,HTB⟩:∃ tb,Hid (decide (nc.sum=k)=tb):=⟨_,Lib.hid rfl⟩
    have HHT:Hid (histT k nc nb=!tb):=Lib.hid (by unfold histT;rw[←HTB.out,decide_eq_true (by omega:0<nc.length∨0<nb.length),decide_eq_false (by omega:¬nc.length≠nb.length+1)];simp)
    clear hm
    have hc3:w2.cell? ⟨bx,3,none⟩=some (.int .u64 (k:Int)):=row_cell HXw2.out (j:=3) rfl
    have hc10:w2.cell? ⟨bx,10,none⟩=some (.slice nco nc.length ncc):=row_cell HXw2.out (j:=10) rfl
    have hc11:w2.cell? ⟨bx,11,none⟩=some (.slice nbo nb.length nbc):=row_cell HXw2.out (j:=11) rfl
    go_wp2_with fail
    clear hc3 hc10 hc11
    refine (rtotal_any k nc nco ncc _ HK9.out (by omega) (Lib.hid (HNC.out.below HBw2.out)) HTB).mono ?_;rintro e w' ⟨rfl,rfl⟩
    cases tb with
    | false =>
     have hr2:r=8:=by rw[←HR.out,HHT.out];rfl
     subst hr2
     go_wp2_with fail
     go_ret
     exact ⟨rfl,HBw2.out⟩
    | true =>
     have HRT:Hid ((if riseB nb=false then 9 else if apartB mh mn gh gn=true then 11 else 0)=r):=Lib.hid (by rw[←HR.out,HHT.out];rfl)
     clear d1 d0 d3 hc d2
     go_upto_region 6 with fail
     have hc11:w2.cell? ⟨bx,11,none⟩=some (.slice nbo nb.length nbc):=row_cell HXw2.out (j:=11) rfl
     obtain ⟨rb,HRB⟩:∃ rb,Hid (riseB nb=rb):=⟨_,Lib.hid rfl⟩
     go_wp2_with fail
     clear hc11
     refine (rises_any nb nbo nbc _ (by omega) HNBS.out (Lib.hid (HNB.out.below HBw2.out)) HRB).mono ?_;rintro e w8 ⟨rfl,hb⟩
     have HXw8:Hid (w8.heap[bx]? = some (.cells #[.slice lo l.length lc,.int .u64 (a:Int),.int .u64 (t:Int),.int .u64 (k:Int),.bool ph,.int .u64 (pn:Int),.bool mh,.int .u64 (mn:Int),.bool gh,.int .u64 (gn:Int),.slice nco nc.length ncc,.slice nbo nb.length nbc,.slice eo es.length ec,.int .u32 (f:Int),.string XU] 56 (0,0))):=Lib.hid ((hb.block _ (row_lt HXw2.out)).trans HXw2.out)
     have HBw8:Hid (Below w.heap.size w w8):=Lib.hid (below_step HBw2.out hb)
     clear hb
     cases rb with
     | false =>
      have hr2:r=9:=by
       rw[←HRT.out,HRB.out];simp
      subst hr2
      go_wp2_with fail
      go_ret
      exact ⟨rfl,HBw8.out⟩
     | true =>
      have hc6:w8.cell? ⟨bx,6,none⟩=some (.bool mh):=row_cell HXw8.out (j:=6) rfl
      have hc7:w8.cell? ⟨bx,7,none⟩=some (.int .u64 (mn:Int)):=row_cell HXw8.out (j:=7) rfl
      have hc8:w8.cell? ⟨bx,8,none⟩=some (.bool gh):=row_cell HXw8.out (j:=8) rfl
      have hc9:w8.cell? ⟨bx,9,none⟩=some (.int .u64 (gn:Int)):=row_cell HXw8.out (j:=9) rfl
      obtain ⟨ab,HAB⟩:∃ ab,Hid (apartB mh mn gh gn=ab):=⟨_,Lib.hid rfl⟩
      go_wp2_with fail
      clear hc6 hc7 hc8 hc9
      refine (upside_any mh gh mn gn _ HMN.out HGN.out HAB).mono ?_;rintro e w9 ⟨rfl,hb⟩
      have HXw9:Hid (w9.heap[bx]? = some (.cells #[.slice lo l.length lc,.int .u64 (a:Int),.int .u64 (t:Int),.int .u64 (k:Int),.bool ph,.int .u64 (pn:Int),.bool mh,.int .u64 (mn:Int),.bool gh,.int .u64 (gn:Int),.slice nco nc.length ncc,.slice nbo nb.length nbc,.slice eo es.length ec,.int .u32 (f:Int),.string XU] 56 (0,0))):=Lib.hid ((hb.block _ (row_lt HXw8.out)).trans HXw8.out)
      have HBw9:Hid (Below w.heap.size w w9):=Lib.hid (below_step HBw8.out hb)
      clear hb
      cases ab with
      | true =>
       have hr2:r=11:=by
        rw[←HRT.out,HRB.out,HAB.out];simp
       subst hr2
       go_wp2_with fail
       go_ret
       exact ⟨rfl,HBw9.out⟩
      | false =>
       have hr2:r=0:=by
        rw[←HRT.out,HRB.out,HAB.out];simp
       subst hr2
       go_wp2_with fail
       go_ret
       exact ⟨rfl,HBw9.out⟩
   ·have d2:((nc.length:Int) != (nb.length:Int)+1)=true:=by rw[bne_iff_ne];omega
    have hr2:r=8:=by
     rw[←HR.out]
     unfold histT
     rw[decide_eq_true (by omega:0<nc.length∨0<nb.length),decide_eq_true hm];rfl
    subst hr2
    clear hm
    have hc3:w2.cell? ⟨bx,3,none⟩=some (.int .u64 (k:Int)):=row_cell HXw2.out (j:=3) rfl
    have hc10:w2.cell? ⟨bx,10,none⟩=some (.slice nco nc.length ncc):=row_cell HXw2.out (j:=10) rfl
    have hc11:w2.cell? ⟨bx,11,none⟩=some (.slice nbo nb.length nbc):=row_cell HXw2.out (j:=11) rfl
    go_wp2_with fail
    go_ret
    exact ⟨rfl,HBw2.out⟩
  ·have d1:decide ((0:Int)<(nc.length:Int)+(nb.length:Int))=false:=decide_eq_false (by omega)
   have d0:¬(0:Int)<(nc.length:Int)+(nb.length:Int):=by omega
   have d3:decide (0<nc.length+nb.length)=false:=decide_eq_false hc
   have HRT:Hid ((if riseB nb=false then 9 else if apartB mh mn gh gn=true then 11 else 0)=r):=Lib.hid (by
     rw[←HR.out]
     unfold histT
     rw[decide_eq_false (by omega:¬(0<nc.length∨0<nb.length))];rfl)
   have hc3:w2.cell? ⟨bx,3,none⟩=some (.int .u64 (k:Int)):=row_cell HXw2.out (j:=3) rfl
   have hc10:w2.cell? ⟨bx,10,none⟩=some (.slice nco nc.length ncc):=row_cell HXw2.out (j:=10) rfl
   have hc11:w2.cell? ⟨bx,11,none⟩=some (.slice nbo nb.length nbc):=row_cell HXw2.out (j:=11) rfl
   go_upto_region 6 with fail
   clear hc3 hc10 hc11
   have hc11:w2.cell? ⟨bx,11,none⟩=some (.slice nbo nb.length nbc):=row_cell HXw2.out (j:=11) rfl
   obtain ⟨rb,HRB⟩:∃ rb,Hid (riseB nb=rb):=⟨_,Lib.hid rfl⟩
   go_wp2_with fail
   clear hc11
   refine (rises_any nb nbo nbc _ (by omega) HNBS.out (Lib.hid (HNB.out.below HBw2.out)) HRB).mono ?_;rintro e w8 ⟨rfl,hb⟩
   have HXw8:Hid (w8.heap[bx]? = some (.cells #[.slice lo l.length lc,.int .u64 (a:Int),.int .u64 (t:Int),.int .u64 (k:Int),.bool ph,.int .u64 (pn:Int),.bool mh,.int .u64 (mn:Int),.bool gh,.int .u64 (gn:Int),.slice nco nc.length ncc,.slice nbo nb.length nbc,.slice eo es.length ec,.int .u32 (f:Int),.string XU] 56 (0,0))):=Lib.hid ((hb.block _ (row_lt HXw2.out)).trans HXw2.out)
   have HBw8:Hid (Below w.heap.size w w8):=Lib.hid (below_step HBw2.out hb)
   clear hb
   cases rb with
   | false =>
    have hr2:r=9:=by
     rw[←HRT.out,HRB.out];simp
    subst hr2
    go_wp2_with fail
    go_ret
    exact ⟨rfl,HBw8.out⟩
   | true =>
    have hc6:w8.cell? ⟨bx,6,none⟩=some (.bool mh):=row_cell HXw8.out (j:=6) rfl
    have hc7:w8.cell? ⟨bx,7,none⟩=some (.int .u64 (mn:Int)):=row_cell HXw8.out (j:=7) rfl
    have hc8:w8.cell? ⟨bx,8,none⟩=some (.bool gh):=row_cell HXw8.out (j:=8) rfl
    have hc9:w8.cell? ⟨bx,9,none⟩=some (.int .u64 (gn:Int)):=row_cell HXw8.out (j:=9) rfl
    obtain ⟨ab,HAB⟩:∃ ab,Hid (apartB mh mn gh gn=ab):=⟨_,Lib.hid rfl⟩
    go_wp2_with fail
    clear hc6 hc7 hc8 hc9
    refine (upside_any mh gh mn gn _ HMN.out HGN.out HAB).mono ?_;rintro e w9 ⟨rfl,hb⟩
    have HXw9:Hid (w9.heap[bx]? = some (.cells #[.slice lo l.length lc,.int .u64 (a:Int),.int .u64 (t:Int),.int .u64 (k:Int),.bool ph,.int .u64 (pn:Int),.bool mh,.int .u64 (mn:Int),.bool gh,.int .u64 (gn:Int),.slice nco nc.length ncc,.slice nbo nb.length nbc,.slice eo es.length ec,.int .u32 (f:Int),.string XU] 56 (0,0))):=Lib.hid ((hb.block _ (row_lt HXw8.out)).trans HXw8.out)
    have HBw9:Hid (Below w.heap.size w w9):=Lib.hid (below_step HBw8.out hb)
    clear hb
    cases ab with
    | true =>
     have hr2:r=11:=by
      rw[←HRT.out,HRB.out,HAB.out];simp
     subst hr2
     go_wp2_with fail
     go_ret
     exact ⟨rfl,HBw9.out⟩
    | false =>
     have hr2:r=0:=by
      rw[←HRT.out,HRB.out,HAB.out];simp
     subst hr2
     go_wp2_with fail
     go_ret
     exact ⟨rfl,HBw9.out⟩
end Go.Proofs.YtcblkndiclkacaaDoor
