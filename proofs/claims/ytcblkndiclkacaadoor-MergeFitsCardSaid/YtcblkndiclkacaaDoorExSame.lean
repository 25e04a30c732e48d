/-
  ExBack, ExSame
-/
import Derived.Test.YtcblkndiclkacaaDoorFld
import Derived.Test.YtcblkndiclkacaaDoorAlike
set_option maxRecDepth 1000000
set_option maxHeartbeats 16000000
namespace Go.Proofs.YtcblkndiclkacaaDoor
open Go.RowKit
def exF:Fld:=(numF 2).and (((kindF 3 6).wrap ((bytesF 4).and (bytesF 5)) (fun s=>if s.1=1 then [rF 3 s.2] else []) (fun s=>if s.1=2 then [rF 6 s.2] else [])).and (listF 7 kvS))
open Go.RowKit
abbrev Ex:Type:=(Nat × ((Int × Nat) × List UInt8 × List UInt8) × List KV) × List UInt8
def ExRel (w:World) (P:Nat→Prop):Ex→List Value→Prop
  | ((t,(((k,n),(a,b)),l)),u),cs=>∃ (lo:Option Addr) (lc:Nat),cs=[.slice lo l.length lc,.int .u64 (t:Int),.int .i64 k,.int .u64 (n:Int),strV a,strV b,strV u]∧KRels w P l lo 0
def exCel:Cel Ex where
  R:=ExRel
  size:=7
  len:=by rintro w P ⟨⟨t,⟨⟨⟨k,n⟩,⟨a,b⟩⟩,l⟩⟩,u⟩ cs ⟨lo,lc,rfl,_⟩;rfl
  upd:=by rintro w w' S P Q ⟨⟨t,⟨⟨⟨k,n⟩,⟨a,b⟩⟩,l⟩⟩,u⟩ cs hu hs hq ⟨lo,lc,h,h0⟩;exact ⟨lo,lc,h,KRels.upd hu hs hq _ _ _ h0⟩
  lt:=by rintro w P ⟨⟨t,⟨⟨⟨k,n⟩,⟨a,b⟩⟩,l⟩⟩,u⟩ cs ⟨lo,lc,h,h0⟩;exact ⟨lo,lc,h,KRels.lt _ _ _ h0⟩
def exrd (l:List UInt8) (d:Int):Except Nat Ex:=mread (σ:=Nat × ((Int × Nat) × List UInt8 × List UInt8) × List KV) exF.tk (exF.step d) exF.z l d
open Go.RowKit
def ex_may (d:Int):Ex→Bool
  | ((_,(((k,n),(_,_)),l)),u)=>decide (0≤d)&&((decide (k=0∧n=0∨k=1∨k=2)&&kmays l d)&&munkOk exF.tk u d)
def ex_out:Ex→List UInt8
  | ((t,(((k,n),(a,b)),l)),u)=>(if t=0 then [] else (rF 2 t).raw)++(if k=1 then (rF 3 n).raw else [])++(if a=[] then [] else (rB 4 a).raw)++(if b=[] then [] else (rB 5 b).raw)++(if k=2 then (rF 6 n).raw else [])++kouts 7 l++u
def ex_wt:Ex→Nat
  | ((_,(((_,_),(a,b)),l)),u)=>60+(a.length+b.length+ksw l+u.length)
def ex_arg:Ex→Prop
  | ((t,(((_,n),(a,b)),l)),u)=>t<18446744073709551616∧n<18446744073709551616∧a.length≤9223372036854775807∧b.length≤9223372036854775807∧ksfit l∧kslim l∧l.length≤9223372036854775807∧u.length≤9223372036854775807
open Go.RowKit
open Go.RowKit
theorem row7 {w:World} {g:Nat} {c0 c1 c2 c3 c4 c5 c6:Value} {T:TypeId} {fr:Nat × Nat} (h:w.heap[g]? = some (.cells #[c0,c1,c2,c3,c4,c5,c6] T fr)):w.cell? ⟨g,0,none⟩=some c0∧w.cell? ⟨g,1,none⟩=some c1∧w.cell? ⟨g,2,none⟩=some c2∧w.cell? ⟨g,3,none⟩=some c3∧w.cell? ⟨g,4,none⟩=some c4∧w.cell? ⟨g,5,none⟩=some c5∧w.cell? ⟨g,6,none⟩=some c6:=⟨row_cell h (j:=0) rfl,row_cell h (j:=1) rfl,row_cell h (j:=2) rfl,row_cell h (j:=3) rfl,row_cell h (j:=4) rfl,row_cell h (j:=5) rfl,row_cell h (j:=6) rfl⟩
theorem ex_ref (x y:Ex) (ca cb:List Value) (P Q:Nat→Prop) (w:World) (harg:ex_arg x) (ha:exCel.R w P x ca) (hb:exCel.R w Q y cb) :
 Calls Tryd.prog 85 #[.agg ca.toArray,.agg cb.toArray] w fun e w'=>e = .returned (.bool (alike x y))∧Below w.heap.size w w':=by
 obtain ⟨⟨t1,⟨⟨⟨k1,n1⟩,⟨a1,b1⟩⟩,l1⟩⟩,u1⟩:=x
 obtain ⟨⟨t2,⟨⟨⟨k2,n2⟩,⟨a2,b2⟩⟩,l2⟩⟩,u2⟩:=y
 obtain ⟨lo1,lc1,rfl,hra⟩:=ha
 obtain ⟨lo2,lc2,rfl,hrb⟩:=hb
 obtain ⟨_,_,_,_,_,hll1,hzl1,_⟩:=harg
 have HRA:=Lib.hid hra
 have HRB:=Lib.hid hrb
 have HLIM:=Lib.hid hll1
 have HLEN:=Lib.hid hzl1
 clear hra hrb hll1 hzl1
 dsimp only[strV]
 obtain ⟨Xa1,ha1⟩:∃ X:ByteArray,(⟨a1.toArray⟩:ByteArray)=X:=⟨_,rfl⟩
 have ga1:Xa1.data.toList=a1:=by rw[←ha1]
 obtain ⟨Xa2,ha2⟩:∃ X:ByteArray,(⟨a2.toArray⟩:ByteArray)=X:=⟨_,rfl⟩
 have ga2:Xa2.data.toList=a2:=by rw[←ha2]
 obtain ⟨Xb1,hb1⟩:∃ X:ByteArray,(⟨b1.toArray⟩:ByteArray)=X:=⟨_,rfl⟩
 have gb1:Xb1.data.toList=b1:=by rw[←hb1]
 obtain ⟨Xb2,hb2⟩:∃ X:ByteArray,(⟨b2.toArray⟩:ByteArray)=X:=⟨_,rfl⟩
 have gb2:Xb2.data.toList=b2:=by rw[←hb2]
 obtain ⟨Xu1,hu1⟩:∃ X:ByteArray,(⟨u1.toArray⟩:ByteArray)=X:=⟨_,rfl⟩
 have gu1:Xu1.data.toList=u1:=by rw[←hu1]
 obtain ⟨Xu2,hu2⟩:∃ X:ByteArray,(⟨u2.toArray⟩:ByteArray)=X:=⟨_,rfl⟩
 have gu2:Xu2.data.toList=u2:=by rw[←hu2]
 rw[ha1,hb1,hu1,ha2,hb2,hu2]
 clear ha1 hb1 hu1 ha2 hb2 hu2
 obtain ⟨W,hW⟩:∃ W,(w.alloc (.cells #[.slice lo1 l1.length lc1,.int .u64 (t1:Int),.int .i64 k1,.int .u64 (n1:Int),.string Xa1,.string Xb1,.string Xu1] 153)).alloc (.cells #[.slice lo2 l2.length lc2,.int .u64 (t2:Int),.int .i64 k2,.int .u64 (n2:Int),.string Xa2,.string Xb2,.string Xu2] 153)=W:=⟨_,rfl⟩
 have HBW:Hid (Below w.heap.size w W):=Lib.hid (by rw[←hW];exact below_step (below_new _ _) (below_new _ _))
 have HXA:Hid (W.heap[w.heap.size]? = some (.cells #[.slice lo1 l1.length lc1,.int .u64 (t1:Int),.int .i64 k1,.int .u64 (n1:Int),.string Xa1,.string Xb1,.string Xu1] 153 (0,0))):=Lib.hid (by rw[←hW];exact (Below.heap_alloc _ _ _ (by simp)).trans (heap_alloc_new w _))
 have HXB:Hid (W.heap[w.heap.size+1]? = some (.cells #[.slice lo2 l2.length lc2,.int .u64 (t2:Int),.int .i64 k2,.int .u64 (n2:Int),.string Xa2,.string Xb2,.string Xu2] 153 (0,0))):=Lib.hid (by rw[←hW];have:=heap_alloc_new (w.alloc (.cells #[.slice lo1 l1.length lc1,.int .u64 (t1:Int),.int .i64 k1,.int .u64 (n1:Int),.string Xa1,.string Xb1,.string Xu1] 153)) (.cells #[.slice lo2 l2.length lc2,.int .u64 (t2:Int),.int .i64 k2,.int .u64 (n2:Int),.string Xa2,.string Xb2,.string Xu2] 153);simpa using this)
 have HK:=Lib.hid (hkeys_same l1 l2 lo1 lo2 lc1 lc2 P Q W HLEN.out HLIM.out (HRA.out.below HBW.out) (HRB.out.below HBW.out))
 have HW:=Lib.hid hW
 clear hW
 cases hk:alike l1 l2 with
 | false =>
  have hl:¬l1=l2:=fun h=>by rw[alike_yes h] at hk;cases hk
  rw[alike_no (x:=((t1,(((k1,n1),(a1,b1)),l1)),u1)) (y:=((t2,(((k2,n2),(a2,b2)),l2)),u2)) (fun h=>hl (by simp only[Prod.mk.injEq] at h;exact h.1.2.2))]
  clear hl  ga1 ga2 gb1 gb2 gu1 gu2
  go_enter Tryd.func85,Tryd.ntmps85
  go_wp2_with fail
  rw[HW.out]
  refine HK.out.mono ?_;rintro e w4 ⟨rfl,hb4⟩
  rw[hk]
  obtain ⟨xa0,xa1,xa2,xa3,xa4,xa5,xa6⟩:=row7 ((hb4.block _ (row_lt HXA.out)).trans HXA.out)
  obtain ⟨xb0,xb1,xb2,xb3,xb4,xb5,xb6⟩:=row7 ((hb4.block _ (row_lt HXB.out)).trans HXB.out)
  have HB4:=Lib.hid (below_step HBW.out hb4)
  clear hb4 hk
  go_wp2_with fail
  go_ret
  exact ⟨rfl,HB4.out⟩
 | true =>
  have hl:l1=l2:=alike_iff.1 hk
  by_cases et:t1=t2
  case neg =>
   have dt:((t1:Int) == (t2:Int))=false:=by rw[beq_eq_false_iff_ne];omega
   rw[alike_no (x:=((t1,(((k1,n1),(a1,b1)),l1)),u1)) (y:=((t2,(((k2,n2),(a2,b2)),l2)),u2)) (fun h=>et (by simp only[Prod.mk.injEq] at h;exact h.1.1))]
   clear  et ga1 ga2 gb1 gb2 gu1 gu2 hl
   go_enter Tryd.func85,Tryd.ntmps85
   go_wp2_with fail
   rw[HW.out]
   refine HK.out.mono ?_;rintro e w4 ⟨rfl,hb4⟩
   rw[hk]
   obtain ⟨xa0,xa1,xa2,xa3,xa4,xa5,xa6⟩:=row7 ((hb4.block _ (row_lt HXA.out)).trans HXA.out)
   obtain ⟨xb0,xb1,xb2,xb3,xb4,xb5,xb6⟩:=row7 ((hb4.block _ (row_lt HXB.out)).trans HXB.out)
   have HB4:=Lib.hid (below_step HBW.out hb4)
   clear hb4 hk
   go_wp2_with fail
   go_ret
   exact ⟨rfl,HB4.out⟩
  case pos =>
   have dt:((t1:Int) == (t2:Int))=true:=by rw[beq_iff_eq];omega
   by_cases ek:k1=k2
   case neg =>
    have dk:((k1:Int) == (k2:Int))=false:=by rw[beq_eq_false_iff_ne];omega
    rw[alike_no (x:=((t1,(((k1,n1),(a1,b1)),l1)),u1)) (y:=((t2,(((k2,n2),(a2,b2)),l2)),u2)) (fun h=>ek (by simp only[Prod.mk.injEq] at h;exact h.1.2.1.1.1))]
    clear et ek ga1 ga2 gb1 gb2 gu1 gu2 hl
    go_enter Tryd.func85,Tryd.ntmps85
    go_wp2_with fail
    rw[HW.out]
    refine HK.out.mono ?_;rintro e w4 ⟨rfl,hb4⟩
    rw[hk]
    obtain ⟨xa0,xa1,xa2,xa3,xa4,xa5,xa6⟩:=row7 ((hb4.block _ (row_lt HXA.out)).trans HXA.out)
    obtain ⟨xb0,xb1,xb2,xb3,xb4,xb5,xb6⟩:=row7 ((hb4.block _ (row_lt HXB.out)).trans HXB.out)
    have HB4:=Lib.hid (below_step HBW.out hb4)
    clear hb4 hk
    go_wp2_with fail
    go_ret
    exact ⟨rfl,HB4.out⟩
   case pos =>
    have dk:((k1:Int) == (k2:Int))=true:=by rw[beq_iff_eq];omega
    by_cases en:n1=n2
    case neg =>
     have dn:((n1:Int) == (n2:Int))=false:=by rw[beq_eq_false_iff_ne];omega
     rw[alike_no (x:=((t1,(((k1,n1),(a1,b1)),l1)),u1)) (y:=((t2,(((k2,n2),(a2,b2)),l2)),u2)) (fun h=>en (by simp only[Prod.mk.injEq] at h;exact h.1.2.1.1.2))]
     clear et ek en ga1 ga2 gb1 gb2 gu1 gu2 hl
     go_enter Tryd.func85,Tryd.ntmps85
     go_wp2_with fail
     rw[HW.out]
     refine HK.out.mono ?_;rintro e w4 ⟨rfl,hb4⟩
     rw[hk]
     obtain ⟨xa0,xa1,xa2,xa3,xa4,xa5,xa6⟩:=row7 ((hb4.block _ (row_lt HXA.out)).trans HXA.out)
     obtain ⟨xb0,xb1,xb2,xb3,xb4,xb5,xb6⟩:=row7 ((hb4.block _ (row_lt HXB.out)).trans HXB.out)
     have HB4:=Lib.hid (below_step HBW.out hb4)
     clear hb4 hk
     go_wp2_with fail
     go_ret
     exact ⟨rfl,HB4.out⟩
    case pos =>
     have dn:((n1:Int) == (n2:Int))=true:=by rw[beq_iff_eq];omega
     by_cases ea:a1=a2
     case neg =>
      have da:=(text_ne ga1 ga2 ea).2
      rw[alike_no (x:=((t1,(((k1,n1),(a1,b1)),l1)),u1)) (y:=((t2,(((k2,n2),(a2,b2)),l2)),u2)) (fun h=>ea (by simp only[Prod.mk.injEq] at h;exact h.1.2.1.2.1))]
      clear et ek en ea ga1 ga2 gb1 gb2 gu1 gu2 hl
      go_enter Tryd.func85,Tryd.ntmps85
      go_wp2_with fail
      rw[HW.out]
      refine HK.out.mono ?_;rintro e w4 ⟨rfl,hb4⟩
      rw[hk]
      obtain ⟨xa0,xa1,xa2,xa3,xa4,xa5,xa6⟩:=row7 ((hb4.block _ (row_lt HXA.out)).trans HXA.out)
      obtain ⟨xb0,xb1,xb2,xb3,xb4,xb5,xb6⟩:=row7 ((hb4.block _ (row_lt HXB.out)).trans HXB.out)
      have HB4:=Lib.hid (below_step HBW.out hb4)
      clear hb4 hk
      go_wp2_with fail
      go_ret
      exact ⟨rfl,HB4.out⟩
     case pos =>
      obtain rfl:=ba_same ga1 ga2 ea
      by_cases eb:b1=b2
      case neg =>
       have db:=(text_ne gb1 gb2 eb).2
       rw[alike_no (x:=((t1,(((k1,n1),(a1,b1)),l1)),u1)) (y:=((t2,(((k2,n2),(a2,b2)),l2)),u2)) (fun h=>eb (by simp only[Prod.mk.injEq] at h;exact h.1.2.1.2.2))]
       clear et ek en ea eb ga1 ga2 gb1 gb2 gu1 gu2 hl
       go_enter Tryd.func85,Tryd.ntmps85
       go_wp2_with fail
       rw[HW.out]
       refine HK.out.mono ?_;rintro e w4 ⟨rfl,hb4⟩
       rw[hk]
       obtain ⟨xa0,xa1,xa2,xa3,xa4,xa5,xa6⟩:=row7 ((hb4.block _ (row_lt HXA.out)).trans HXA.out)
       obtain ⟨xb0,xb1,xb2,xb3,xb4,xb5,xb6⟩:=row7 ((hb4.block _ (row_lt HXB.out)).trans HXB.out)
       have HB4:=Lib.hid (below_step HBW.out hb4)
       clear hb4 hk
       go_wp2_with fail
       go_ret
       exact ⟨rfl,HB4.out⟩
      case pos =>
       obtain rfl:=ba_same gb1 gb2 eb
       by_cases eu:u1=u2
       case neg =>
        have du:=(text_ne gu1 gu2 eu).2
        rw[alike_no (x:=((t1,(((k1,n1),(a1,b1)),l1)),u1)) (y:=((t2,(((k2,n2),(a2,b2)),l2)),u2)) (fun h=>eu (by simp only[Prod.mk.injEq] at h;exact h.2))]
        clear et ek en ea eb eu ga1 ga2 gb1 gb2 gu1 gu2 hl
        go_enter Tryd.func85,Tryd.ntmps85
        go_wp2_with fail
        rw[HW.out]
        refine HK.out.mono ?_;rintro e w4 ⟨rfl,hb4⟩
        rw[hk]
        obtain ⟨xa0,xa1,xa2,xa3,xa4,xa5,xa6⟩:=row7 ((hb4.block _ (row_lt HXA.out)).trans HXA.out)
        obtain ⟨xb0,xb1,xb2,xb3,xb4,xb5,xb6⟩:=row7 ((hb4.block _ (row_lt HXB.out)).trans HXB.out)
        have HB4:=Lib.hid (below_step HBW.out hb4)
        clear hb4 hk
        go_wp2_with fail
        go_ret
        exact ⟨rfl,HB4.out⟩
       case pos =>
        obtain rfl:=ba_same gu1 gu2 eu
        rw[alike_yes (x:=((t1,(((k1,n1),(a1,b1)),l1)),u1)) (y:=((t2,(((k2,n2),(a2,b2)),l2)),u2)) (by rw[hl,et,ek,en,ea,eb,eu])]
        clear hl et ek en ea eb eu ga1 ga2 gb1 gb2 gu1 gu2
        go_enter Tryd.func85,Tryd.ntmps85
        go_wp2_with fail
        rw[HW.out]
        refine HK.out.mono ?_;rintro e w4 ⟨rfl,hb4⟩
        rw[hk]
        obtain ⟨xa0,xa1,xa2,xa3,xa4,xa5,xa6⟩:=row7 ((hb4.block _ (row_lt HXA.out)).trans HXA.out)
        obtain ⟨xb0,xb1,xb2,xb3,xb4,xb5,xb6⟩:=row7 ((hb4.block _ (row_lt HXB.out)).trans HXB.out)
        have HB4:=Lib.hid (below_step HBW.out hb4)
        clear hb4 hk
        go_wp2_with fail
        go_ret
        exact ⟨rfl,HB4.out⟩
end Go.Proofs.YtcblkndiclkacaaDoor
