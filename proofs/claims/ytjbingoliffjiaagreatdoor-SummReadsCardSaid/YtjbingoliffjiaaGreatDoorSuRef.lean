/-
  hygref.Summary: any two.
-/
import Derived.Test.YtjbingoliffjiaaGreatDoorQuTakes
import Derived.Test.YtjbingoliffjiaaGreatDoorSuBack
import Derived.Test.YtjbingoliffjiaaGreatDoorAlikeB
import Derived.Test.YtjbingoliffjiaaGreatDoorAlike
set_option maxRecDepth 1000000
set_option maxHeartbeats 16000000
namespace Go.Proofs.YtjbingoliffjiaaGreatDoor
open Go.RowKit
def S6 (na ga oa gb ob N:Nat) (ca cb:List Value) (A B:Array Value) (T:TypeId) (w:World):Prop:=(Cells w ga oa ca∧Cells w gb ob cb∧w.heap[na]? = some (.cells A T (0,0))∧w.heap[na+1]? = some (.cells B T (0,0)))∧ga<N∧gb<N∧na+1<N∧N≤w.heap.size
theorem S6.upd {na ga oa gb ob N:Nat} {ca cb:List Value} {A B:Array Value} {T:TypeId} {w w':World} {S:Nat→Prop} (h:S6 na ga oa gb ob N ca cb A B T w) (hu:Upd S w w') (hs:∀ k,k<N→¬S k):S6 na ga oa gb ob N ca cb A B T w':=by
  obtain ⟨⟨h1,h2,h3,h4⟩,h5,h6,h7,h8⟩:=h
  exact ⟨⟨h1.upd hu (by omega) (hs ga h5),h2.upd hu (by omega) (hs gb h6),(hu.block _ (row_lt h3) (hs na (by omega))).trans h3,(hu.block _ (row_lt h4) (hs _ h7)).trans h4⟩,h5,h6,h7,Nat.le_trans h8 hu.size⟩
theorem qu_set {w:World} {g:Nat} {T:TypeId} {z0 z1 z2:Value} (h:w.heap[g]? = some (.cells #[z0,z1,z2] T (0,0))) (c0 c1 c2:Value):(((w.setCell ⟨g,0,none⟩ c0).setCell ⟨g,1,none⟩ c1).setCell ⟨g,2,none⟩ c2).heap[g]? = some (.cells #[c0,c1,c2] T (0,0))∧Upd (fun k=>k=g) w (((w.setCell ⟨g,0,none⟩ c0).setCell ⟨g,1,none⟩ c1).setCell ⟨g,2,none⟩ c2) :=
  ⟨row_set (row_set (row_set h 0 c0) 1 c1) 2 c2,((Upd.set w ⟨g,0,none⟩ c0).trans (Upd.set _ ⟨g,1,none⟩ c1)).trans (Upd.set _ ⟨g,2,none⟩ c2)⟩
theorem su_ref (x y : Su) (ca cb:List Value) (P Q:Nat→Prop) (w:World) (harg:su_arg x) (ha:suCel.R w P x ca) (hb:suCel.R w Q y cb) :
 Calls Tryz.prog 36 #[.agg ca.toArray,.agg cb.toArray] w fun e w'=>e = .returned (.bool (alike x y))∧Below w.heap.size w w':=by
 obtain ⟨⟨a1,⟨t1,⟨k1,⟨n1,⟨qs1,⟨l1,f1⟩⟩⟩⟩⟩⟩,u1⟩:=x
 obtain ⟨⟨a2,⟨t2,⟨k2,⟨n2,⟨qs2,⟨l2,f2⟩⟩⟩⟩⟩⟩,u2⟩:=y
 obtain ⟨lo1,lc1,qo1,qc1,rfl,ral,raqs⟩:=ha
 obtain ⟨lo2,lc2,qo2,qc2,rfl,rbl,rbqs⟩:=hb
 obtain ⟨_,_,_,_,hfqs1,hzqs1,_,hll1,hzl1,_,_⟩:=harg
 have HRAl:=Lib.hid ral
 have HRBl:=Lib.hid rbl
 have HRAqs:=Lib.hid raqs
 have HRBqs:=Lib.hid rbqs
 have HLENl:=Lib.hid hzl1
 have HLIMl:=Lib.hid hll1
 have HLENqs:=Lib.hid hzqs1
 have HLIMqs:=Lib.hid hfqs1
 clear ral rbl raqs rbqs hzl1 hll1 hzqs1 hfqs1
 dsimp only[strV]
 obtain ⟨Xu1,hu1⟩:∃ X:ByteArray,(⟨u1.toArray⟩:ByteArray)=X:=⟨_,rfl⟩
 have gu1:Xu1.data.toList=u1:=by rw[←hu1]
 obtain ⟨Xu2,hu2⟩:∃ X:ByteArray,(⟨u2.toArray⟩:ByteArray)=X:=⟨_,rfl⟩
 have gu2:Xu2.data.toList=u2:=by rw[←hu2]
 rw[hu1,hu2]
 clear hu1 hu2
 obtain ⟨W,hW⟩:∃ W,(w.alloc (.cells #[.slice lo1 l1.length lc1,.int .u64 (a1:Int),.int .u64 (t1:Int),.int .u64 (k1:Int),.int .u64 (n1:Int),.slice qo1 qs1.length qc1,.int .u32 (f1:Int),.string Xu1] 64)).alloc (.cells #[.slice lo2 l2.length lc2,.int .u64 (a2:Int),.int .u64 (t2:Int),.int .u64 (k2:Int),.int .u64 (n2:Int),.slice qo2 qs2.length qc2,.int .u32 (f2:Int),.string Xu2] 64)=W:=⟨_,rfl⟩
 have HBW:Hid (Below w.heap.size w W):=Lib.hid (by rw[←hW];exact below_step (below_new _ _) (below_new _ _))
 have HXA:Hid (W.heap[w.heap.size]? = some (.cells #[.slice lo1 l1.length lc1,.int .u64 (a1:Int),.int .u64 (t1:Int),.int .u64 (k1:Int),.int .u64 (n1:Int),.slice qo1 qs1.length qc1,.int .u32 (f1:Int),.string Xu1] 64 (0,0))):=Lib.hid (by rw[←hW];exact (Below.heap_alloc _ _ _ (by simp)).trans (heap_alloc_new w _))
 have HXB:Hid (W.heap[w.heap.size+1]? = some (.cells #[.slice lo2 l2.length lc2,.int .u64 (a2:Int),.int .u64 (t2:Int),.int .u64 (k2:Int),.int .u64 (n2:Int),.slice qo2 qs2.length qc2,.int .u32 (f2:Int),.string Xu2] 64 (0,0))):=Lib.hid (by rw[←hW];have:=heap_alloc_new (w.alloc (.cells #[.slice lo1 l1.length lc1,.int .u64 (a1:Int),.int .u64 (t1:Int),.int .u64 (k1:Int),.int .u64 (n1:Int),.slice qo1 qs1.length qc1,.int .u32 (f1:Int),.string Xu1] 64)) (.cells #[.slice lo2 l2.length lc2,.int .u64 (a2:Int),.int .u64 (t2:Int),.int .u64 (k2:Int),.int .u64 (n2:Int),.slice qo2 qs2.length qc2,.int .u32 (f2:Int),.string Xu2] 64);simpa using this)
 have HKl:=Lib.hid (fun w' (hb:Below w.heap.size w w')=>hkeys_same l1 l2 lo1 lo2 lc1 lc2 P Q w' HLENl.out HLIMl.out (HRAl.out.below hb) (HRBl.out.below hb))
 have HW:=Lib.hid hW
 clear hW
 cases hkl:alike l1 l2 with
 | false =>
  have hll:¬l1=l2:=fun h=>by rw[alike_yes h] at hkl;cases hkl
  rw[alike_no (x:=((a1,(t1,(k1,(n1,(qs1,(l1,f1)))))),u1)) (y:=((a2,(t2,(k2,(n2,(qs2,(l2,f2)))))),u2)) (fun h=>hll (by simp only[Prod.mk.injEq] at h;exact h.1.2.2.2.2.2.1))]
  clear hll  gu1 gu2
  go_enter Tryz.func36,Tryz.ntmps36
  go_wp2_with fail
  rw[HW.out]
  refine (HKl.out W HBW.out).mono ?_;rintro e w4 ⟨rfl,hb4⟩
  rw[hkl]
  have HAw4:=Lib.hid ((hb4.block _ (row_lt HXA.out)).trans HXA.out)
  have HQw4:=Lib.hid ((hb4.block _ (row_lt HXB.out)).trans HXB.out)
  have HBw4:=Lib.hid (below_step HBW.out hb4)
  clear hb4
  obtain ⟨xa0,xa1,xa2,xa3,xa4,xa5,xa6,xa7⟩:=row8 HAw4.out
  obtain ⟨xb0,xb1,xb2,xb3,xb4,xb5,xb6,xb7⟩:=row8 HQw4.out
  go_wp2_with fail
  go_ret
  exact ⟨rfl,HBw4.out⟩
 | true =>
  have hll:l1=l2:=alike_iff.1 hkl
  by_cases ea:a1=a2
  case neg =>
   have da:((a1:Int) == (a2:Int))=false:=by rw[beq_eq_false_iff_ne];omega
   have dna:((a1:Int) != (a2:Int))=true:=by rw[bne_iff_ne];omega
   rw[alike_no (x:=((a1,(t1,(k1,(n1,(qs1,(l1,f1)))))),u1)) (y:=((a2,(t2,(k2,(n2,(qs2,(l2,f2)))))),u2)) (fun h=>ea (by simp only[Prod.mk.injEq] at h;exact h.1.1))]
   clear hll ea gu1 gu2
   go_enter Tryz.func36,Tryz.ntmps36
   go_wp2_with fail
   rw[HW.out]
   refine (HKl.out W HBW.out).mono ?_;rintro e w4 ⟨rfl,hb4⟩
   rw[hkl]
   have HAw4:=Lib.hid ((hb4.block _ (row_lt HXA.out)).trans HXA.out)
   have HQw4:=Lib.hid ((hb4.block _ (row_lt HXB.out)).trans HXB.out)
   have HBw4:=Lib.hid (below_step HBW.out hb4)
   clear hb4
   obtain ⟨xa0,xa1,xa2,xa3,xa4,xa5,xa6,xa7⟩:=row8 HAw4.out
   obtain ⟨xb0,xb1,xb2,xb3,xb4,xb5,xb6,xb7⟩:=row8 HQw4.out
   go_wp2_with fail
   go_ret
   exact ⟨rfl,HBw4.out⟩
  case pos =>
   have da:((a1:Int) == (a2:Int))=true:=by rw[beq_iff_eq];omega
   have dna:((a1:Int) != (a2:Int))=false:=by rw[bne_eq_false_iff_eq];omega
   by_cases et:t1=t2
   case neg =>
    have dt:((t1:Int) == (t2:Int))=false:=by rw[beq_eq_false_iff_ne];omega
    have dnt:((t1:Int) != (t2:Int))=true:=by rw[bne_iff_ne];omega
    rw[alike_no (x:=((a1,(t1,(k1,(n1,(qs1,(l1,f1)))))),u1)) (y:=((a2,(t2,(k2,(n2,(qs2,(l2,f2)))))),u2)) (fun h=>et (by simp only[Prod.mk.injEq] at h;exact h.1.2.1))]
    clear ea hll et gu1 gu2
    go_enter Tryz.func36,Tryz.ntmps36
    go_wp2_with fail
    rw[HW.out]
    refine (HKl.out W HBW.out).mono ?_;rintro e w4 ⟨rfl,hb4⟩
    rw[hkl]
    have HAw4:=Lib.hid ((hb4.block _ (row_lt HXA.out)).trans HXA.out)
    have HQw4:=Lib.hid ((hb4.block _ (row_lt HXB.out)).trans HXB.out)
    have HBw4:=Lib.hid (below_step HBW.out hb4)
    clear hb4
    obtain ⟨xa0,xa1,xa2,xa3,xa4,xa5,xa6,xa7⟩:=row8 HAw4.out
    obtain ⟨xb0,xb1,xb2,xb3,xb4,xb5,xb6,xb7⟩:=row8 HQw4.out
    go_wp2_with fail
    go_ret
    exact ⟨rfl,HBw4.out⟩
   case pos =>
    have dt:((t1:Int) == (t2:Int))=true:=by rw[beq_iff_eq];omega
    have dnt:((t1:Int) != (t2:Int))=false:=by rw[bne_eq_false_iff_eq];omega
    by_cases ek:k1=k2
    case neg =>
     have dk:((k1:Int) == (k2:Int))=false:=by rw[beq_eq_false_iff_ne];omega
     have dnk:((k1:Int) != (k2:Int))=true:=by rw[bne_iff_ne];omega
     rw[alike_no (x:=((a1,(t1,(k1,(n1,(qs1,(l1,f1)))))),u1)) (y:=((a2,(t2,(k2,(n2,(qs2,(l2,f2)))))),u2)) (fun h=>ek (by simp only[Prod.mk.injEq] at h;exact h.1.2.2.1))]
     clear ea et hll ek gu1 gu2
     go_enter Tryz.func36,Tryz.ntmps36
     go_wp2_with fail
     rw[HW.out]
     refine (HKl.out W HBW.out).mono ?_;rintro e w4 ⟨rfl,hb4⟩
     rw[hkl]
     have HAw4:=Lib.hid ((hb4.block _ (row_lt HXA.out)).trans HXA.out)
     have HQw4:=Lib.hid ((hb4.block _ (row_lt HXB.out)).trans HXB.out)
     have HBw4:=Lib.hid (below_step HBW.out hb4)
     clear hb4
     obtain ⟨xa0,xa1,xa2,xa3,xa4,xa5,xa6,xa7⟩:=row8 HAw4.out
     obtain ⟨xb0,xb1,xb2,xb3,xb4,xb5,xb6,xb7⟩:=row8 HQw4.out
     go_wp2_with fail
     go_ret
     exact ⟨rfl,HBw4.out⟩
    case pos =>
     have dk:((k1:Int) == (k2:Int))=true:=by rw[beq_iff_eq];omega
     have dnk:((k1:Int) != (k2:Int))=false:=by rw[bne_eq_false_iff_eq];omega
     by_cases en:n1=n2
     case neg =>
      have dn:((n1:Int) == (n2:Int))=false:=by rw[beq_eq_false_iff_ne];omega
      have dnn:((n1:Int) != (n2:Int))=true:=by rw[bne_iff_ne];omega
      rw[alike_no (x:=((a1,(t1,(k1,(n1,(qs1,(l1,f1)))))),u1)) (y:=((a2,(t2,(k2,(n2,(qs2,(l2,f2)))))),u2)) (fun h=>en (by simp only[Prod.mk.injEq] at h;exact h.1.2.2.2.1))]
      clear ea et ek hll en gu1 gu2
      go_enter Tryz.func36,Tryz.ntmps36
      go_wp2_with fail
      rw[HW.out]
      refine (HKl.out W HBW.out).mono ?_;rintro e w4 ⟨rfl,hb4⟩
      rw[hkl]
      have HAw4:=Lib.hid ((hb4.block _ (row_lt HXA.out)).trans HXA.out)
      have HQw4:=Lib.hid ((hb4.block _ (row_lt HXB.out)).trans HXB.out)
      have HBw4:=Lib.hid (below_step HBW.out hb4)
      clear hb4
      obtain ⟨xa0,xa1,xa2,xa3,xa4,xa5,xa6,xa7⟩:=row8 HAw4.out
      obtain ⟨xb0,xb1,xb2,xb3,xb4,xb5,xb6,xb7⟩:=row8 HQw4.out
      go_wp2_with fail
      go_ret
      exact ⟨rfl,HBw4.out⟩
     case pos =>
      have dn:((n1:Int) == (n2:Int))=true:=by rw[beq_iff_eq];omega
      have dnn:((n1:Int) != (n2:Int))=false:=by rw[bne_eq_false_iff_eq];omega
      by_cases eqs:qs1.length=qs2.length
      case neg =>
       have dqs:(((qs1.length:Nat):Int) == ((qs2.length:Nat):Int))=false:=by rw[beq_eq_false_iff_ne];omega
       have dnqs:(((qs1.length:Nat):Int) != ((qs2.length:Nat):Int))=true:=by rw[bne_iff_ne];omega
       rw[alike_no (x:=((a1,(t1,(k1,(n1,(qs1,(l1,f1)))))),u1)) (y:=((a2,(t2,(k2,(n2,(qs2,(l2,f2)))))),u2)) (fun h=>eqs (by simp only[Prod.mk.injEq] at h;rw[h.1.2.2.2.2.1]))]
       clear ea et ek en hll eqs gu1 gu2
       go_enter Tryz.func36,Tryz.ntmps36
       go_wp2_with fail
       rw[HW.out]
       refine (HKl.out W HBW.out).mono ?_;rintro e w4 ⟨rfl,hb4⟩
       rw[hkl]
       have HAw4:=Lib.hid ((hb4.block _ (row_lt HXA.out)).trans HXA.out)
       have HQw4:=Lib.hid ((hb4.block _ (row_lt HXB.out)).trans HXB.out)
       have HBw4:=Lib.hid (below_step HBW.out hb4)
       clear hb4
       obtain ⟨xa0,xa1,xa2,xa3,xa4,xa5,xa6,xa7⟩:=row8 HAw4.out
       obtain ⟨xb0,xb1,xb2,xb3,xb4,xb5,xb6,xb7⟩:=row8 HQw4.out
       go_wp2_with fail
       go_ret
       exact ⟨rfl,HBw4.out⟩
      case pos =>
       have dqs:(((qs1.length:Nat):Int) == ((qs2.length:Nat):Int))=true:=by rw[beq_iff_eq];omega
       have dnqs:(((qs1.length:Nat):Int) != ((qs2.length:Nat):Int))=false:=by rw[bne_eq_false_iff_eq];omega
       by_cases ef:f1=f2
       case neg =>
        have df:((f1:Int) == (f2:Int))=false:=by rw[beq_eq_false_iff_ne];omega
        have dnf:((f1:Int) != (f2:Int))=true:=by rw[bne_iff_ne];omega
        rw[alike_no (x:=((a1,(t1,(k1,(n1,(qs1,(l1,f1)))))),u1)) (y:=((a2,(t2,(k2,(n2,(qs2,(l2,f2)))))),u2)) (fun h=>ef (by simp only[Prod.mk.injEq] at h;exact h.1.2.2.2.2.2.2))]
        clear ea et ek en eqs hll ef gu1 gu2
        go_enter Tryz.func36,Tryz.ntmps36
        go_wp2_with fail
        rw[HW.out]
        refine (HKl.out W HBW.out).mono ?_;rintro e w4 ⟨rfl,hb4⟩
        rw[hkl]
        have HAw4:=Lib.hid ((hb4.block _ (row_lt HXA.out)).trans HXA.out)
        have HQw4:=Lib.hid ((hb4.block _ (row_lt HXB.out)).trans HXB.out)
        have HBw4:=Lib.hid (below_step HBW.out hb4)
        clear hb4
        obtain ⟨xa0,xa1,xa2,xa3,xa4,xa5,xa6,xa7⟩:=row8 HAw4.out
        obtain ⟨xb0,xb1,xb2,xb3,xb4,xb5,xb6,xb7⟩:=row8 HQw4.out
        go_wp2_with fail
        go_ret
        exact ⟨rfl,HBw4.out⟩
       case pos =>
        have df:((f1:Int) == (f2:Int))=true:=by rw[beq_iff_eq];omega
        have dnf:((f1:Int) != (f2:Int))=false:=by rw[bne_eq_false_iff_eq];omega
        by_cases eu:u1=u2
        case neg =>
         have du:=(text_ne gu1 gu2 eu).2
         have dnu:=(text_ne gu1 gu2 eu).1
         rw[alike_no (x:=((a1,(t1,(k1,(n1,(qs1,(l1,f1)))))),u1)) (y:=((a2,(t2,(k2,(n2,(qs2,(l2,f2)))))),u2)) (fun h=>eu (by simp only[Prod.mk.injEq] at h;exact h.2))]
         clear ea et ek en eqs ef hll eu gu1 gu2
         go_enter Tryz.func36,Tryz.ntmps36
         go_wp2_with fail
         rw[HW.out]
         refine (HKl.out W HBW.out).mono ?_;rintro e w4 ⟨rfl,hb4⟩
         rw[hkl]
         have HAw4:=Lib.hid ((hb4.block _ (row_lt HXA.out)).trans HXA.out)
         have HQw4:=Lib.hid ((hb4.block _ (row_lt HXB.out)).trans HXB.out)
         have HBw4:=Lib.hid (below_step HBW.out hb4)
         clear hb4
         obtain ⟨xa0,xa1,xa2,xa3,xa4,xa5,xa6,xa7⟩:=row8 HAw4.out
         obtain ⟨xb0,xb1,xb2,xb3,xb4,xb5,xb6,xb7⟩:=row8 HQw4.out
         go_wp2_with fail
         go_ret
         exact ⟨rfl,HBw4.out⟩
        case pos =>
         obtain rfl:=ba_same gu1 gu2 eu
         obtain ⟨r,HR⟩:∃ r,Hid (alike qs1 qs2=r):=⟨_,Lib.hid rfl⟩
         have hfin:alike ((a1,(t1,(k1,(n1,(qs1,(l1,f1)))))),u1) ((a2,(t2,(k2,(n2,(qs2,(l2,f2)))))),u2)=r:=by
          have h1:=HR.out
          cases r with
          | true=>exact alike_yes (by rw[ea,et,ek,en,ef,eu,hll,alike_iff.1 h1])
          | false=>exact alike_no (fun h=>by rw[alike_yes (show qs1=qs2 by simp only[Prod.mk.injEq] at h;exact h.1.2.2.2.2.1)] at h1;cases h1)
         rw[hfin]
         have HLE:=Lib.hid eqs
         clear hfin ea et ek en eqs ef eu hll gu1 gu2
         go_enter Tryz.func36,Tryz.ntmps36
         go_wp2_with fail
         rw[HW.out]
         refine (HKl.out W HBW.out).mono ?_;rintro e w4 ⟨rfl,hb4⟩
         rw[hkl]
         have HAw4:=Lib.hid ((hb4.block _ (row_lt HXA.out)).trans HXA.out)
         have HQw4:=Lib.hid ((hb4.block _ (row_lt HXB.out)).trans HXB.out)
         have HBw4:=Lib.hid (below_step HBW.out hb4)
         clear hb4
         obtain ⟨xa0,xa1,xa2,xa3,xa4,xa5,xa6,xa7⟩:=row8 HAw4.out
         obtain ⟨xb0,xb1,xb2,xb3,xb4,xb5,xb6,xb7⟩:=row8 HQw4.out
         go_wp2_with fail
         clear xa0 xb0 xa1 xb1 xa2 xb2 xa3 xb3 xa4 xb4 xa5 xb5 xa6 xb6 xa7 xb7
         go_loopg [5] qs1.length (fun gz i wr=>∃ j:Nat,i = .int .i64 (j:Int)∧j+gz=qs1.length∧Below w.heap.size w wr∧Hid (wr.heap[w.heap.size]? = some (.cells #[.slice lo1 l1.length lc1,.int .u64 (a1:Int),.int .u64 (t1:Int),.int .u64 (k1:Int),.int .u64 (n1:Int),.slice qo1 qs1.length qc1,.int .u32 (f1:Int),.string Xu1] 64 (0,0)))∧Hid (wr.heap[w.heap.size+1]? = some (.cells #[.slice lo2 l2.length lc2,.int .u64 (a2:Int),.int .u64 (t2:Int),.int .u64 (k2:Int),.int .u64 (n2:Int),.slice qo2 qs2.length qc2,.int .u32 (f2:Int),.string Xu1] 64 (0,0)))∧Hid (qs1.take j=qs2.take j))
         case atStart=>exact ⟨0,rfl,by omega,HBw4.out,HAw4,HQw4,Lib.hid rfl⟩
         case round =>
           obtain ⟨j,rfl,hj,hbr,HRA,HRB,HEQ⟩:=hrel
           have hl9:=HLENqs.out
           have HBR:=Lib.hid hbr
           have HJ:=Lib.hid hj
           clear hbr hj
           have xa5:=row_cell HRA.out (j:=5) rfl
           have xb5:=row_cell HRB.out (j:=5) rfl
           by_cases hlt:j<qs1.length
           · have hltm : j<qs2.length:=by have:=HLE.out;omega
             obtain ⟨ga,oa,ca,hqa,_,hga,hca,hra⟩:=(HRAqs.out.below HBR.out) j hlt
             obtain ⟨gb,ob,cb,hqb,_,hgb,hcb,hrb⟩:=(HRBqs.out.below HBR.out) j hltm
             have hca:Cells wr ga (oa+3 * j) ca:=hca
             have hcb:Cells wr gb (ob+3 * j) cb:=hcb
             have HCA:=Lib.hid hca
             have HCB:=Lib.hid hcb
             clear hca hcb
             obtain ⟨⟨⟨q1,v1⟩,u1⟩,hx1⟩:∃ x,qs1[j]=x:=⟨_,rfl⟩
             obtain ⟨⟨⟨q2,v2⟩,u2⟩,hx2⟩:∃ x,qs2[j]=x:=⟨_,rfl⟩
             rw[hx1] at hra
             rw[hx2] at hrb
             have hra:ca=[.int .u64 (q1:Int),.int .u64 (v1:Int),strV u1]:=hra
             have hrb:cb=[.int .u64 (q2:Int),.int .u64 (v2:Int),strV u2]:=hrb
             subst hra hrb
             unfold strV at HCA HCB
             obtain ⟨X1,hX1⟩:∃ X:ByteArray,(⟨u1.toArray⟩:ByteArray)=X:=⟨_,rfl⟩
             obtain ⟨X2,hX2⟩:∃ X:ByteArray,(⟨u2.toArray⟩:ByteArray)=X:=⟨_,rfl⟩
             have g1:X1.data.toList=u1:=by rw[←hX1]
             have g2:X2.data.toList=u2:=by rw[←hX2]
             rw[hX1] at HCA
             rw[hX2] at HCB
             obtain ⟨bb,hbb⟩:∃ bb,alike qs1[j] qs2[j]=bb:=⟨_,rfl⟩
             have HBB:=Lib.hid hbb
             have HNE:Hid (bb=(decide ((q1:Int)=(q2:Int))&&decide ((v1:Int)=(v2:Int))&&decide (X1.toList=X2.toList))):=Lib.hid (by
               rw[←hbb,hx1,hx2]
               by_cases h1:q1=q2
               · by_cases h2:v1=v2
                 · by_cases h3:X1.toList=X2.toList
                   · have h4:u1=u2:=by
                       have h5:=h3
                       rw[ByteArray.toList_eq,ByteArray.toList_eq] at h5
                       rw[←g1,←g2];exact h5
                     rw[alike_yes (by rw[h1,h2,h4])]
                     simp[h1,h2,h3]
                   · rw[alike_no (fun h=>h3 (by simp only[Prod.mk.injEq] at h;rw[←hX1,←hX2,h.2]))]
                     simp[h3]
                 · rw[alike_no (fun h=>h2 (by simp only[Prod.mk.injEq] at h;exact h.1.2)),decide_eq_false (by omega:¬(v1:Int)=(v2:Int))]
                   simp
               · rw[alike_no (fun h=>h1 (by simp only[Prod.mk.injEq] at h;exact h.1.1)),decide_eq_false (by omega:¬(q1:Int)=(q2:Int))]
                 rfl)
             clear hbb hx1 hx2 hX1 hX2 g1 g2
             rw[hqa] at xa5
             rw[hqb] at xb5
             have HQA:=Lib.hid hqa
             have HQB:=Lib.hid hqb
             clear hqa hqb
             go_wp2_with fail
             clear xa5 xb5
             obtain ⟨N,hN⟩:∃ N,wr.heap.size=N:=⟨_,rfl⟩
             obtain ⟨D,hD⟩:∃ D,wr.drew=D:=⟨_,rfl⟩
             have HBD:Hid (Below wr.heap.size wr D):=Lib.hid (by rw[←hD];exact (Below.refl _ _).drew)
             have HS6:Hid (S6 w.heap.size ga (oa+3 * j) gb (ob+3 * j) N [.int .u64 (q1:Int),.int .u64 (v1:Int),.string X1] [.int .u64 (q2:Int),.int .u64 (v2:Int),.string X2] #[.slice lo1 l1.length lc1,.int .u64 (a1:Int),.int .u64 (t1:Int),.int .u64 (k1:Int),.int .u64 (n1:Int),.slice qo1 qs1.length qc1,.int .u32 (f1:Int),.string Xu1] #[.slice lo2 l2.length lc2,.int .u64 (a2:Int),.int .u64 (t2:Int),.int .u64 (k2:Int),.int .u64 (n2:Int),.slice qo2 qs2.length qc2,.int .u32 (f2:Int),.string Xu1] 64 D):=Lib.hid (S6.upd (w:=wr) ⟨⟨HCA.out,HCB.out,HRA.out,HRB.out⟩,by omega,by omega,(by have:=row_lt HRB.out;omega),by omega⟩ (Upd.of_new (S:=fun _=>False) HBD.out) (fun _ _ h=>h))
             have HBC:=Lib.hid (below_step HBR.out HBD.out)
             clear hN
             have hne:Nonempty {w':World // (S6 w.heap.size ga (oa+3 * j) gb (ob+3 * j) N [.int .u64 (q1:Int),.int .u64 (v1:Int),.string X1] [.int .u64 (q2:Int),.int .u64 (v2:Int),.string X2] #[.slice lo1 l1.length lc1,.int .u64 (a1:Int),.int .u64 (t1:Int),.int .u64 (k1:Int),.int .u64 (n1:Int),.slice qo1 qs1.length qc1,.int .u32 (f1:Int),.string Xu1] #[.slice lo2 l2.length lc2,.int .u64 (a2:Int),.int .u64 (t2:Int),.int .u64 (k2:Int),.int .u64 (n2:Int),.slice qo2 qs2.length qc2,.int .u32 (f2:Int),.string Xu1] 64) w'}:=⟨⟨_,HS6.out⟩⟩
             refine wp_region_seqP (S:=S6 w.heap.size ga (oa+3 * j) gb (ob+3 * j) N [.int .u64 (q1:Int),.int .u64 (v1:Int),.string X1] [.int .u64 (q2:Int),.int .u64 (v2:Int),.string X2] #[.slice lo1 l1.length lc1,.int .u64 (a1:Int),.int .u64 (t1:Int),.int .u64 (k1:Int),.int .u64 (n1:Int),.slice qo1 qs1.length qc1,.int .u32 (f1:Int),.string Xu1] #[.slice lo2 l2.length lc2,.int .u64 (a2:Int),.int .u64 (t2:Int),.int .u64 (k2:Int),.int .u64 (n2:Int),.slice qo2 qs2.length qc2,.int .u32 (f2:Int),.string Xu1] 64) (.take 0 (.take 1 (.take 2 (.take 3 (.take 4 (.take 5 (.take 6 (.take 7 (.take 8 (.take 9 (.two 10 11 (.come 11 (.come 12 (.come 13 .done))) (.come 10 (.come 12 (.come 13 .done)))))))))))))) (by kernel_rfl) (by kernel_rfl) (by kernel_rfl) (by kernel_rfl) (by rw[hD];exact HS6.out) ?_
             rw[hD]
             clear hD
             (refine seqP_take _ rfl (fun K2 hK=>?_);go_simp;(first|refine hK _ ?_|refine ⟨_,fun _ _=>rfl,hK _ ?_⟩);clear hK K2)
             refine seqP_take _ rfl (fun K2 hK=>?_);go_simp
             (first|refine hK _ ?_|refine ⟨.slice (some ⟨ga,oa,none⟩) qs1.length qc1,fun a ha=>by (have e:a.cell? ⟨w.heap.size,5,none⟩=some (.slice qo1 qs1.length qc1):=row_cell ha.1.2.2.1 (j:=5) rfl);rw[e,HQA.out];rfl,hK _ ?_⟩)
             clear hK K2
             (refine seqP_take _ rfl (fun K2 hK=>?_);go_simp;(first|refine hK _ ?_|refine ⟨_,fun _ _=>rfl,hK _ ?_⟩);clear hK K2)
             refine seqP_take _ rfl (fun K2 hK=>?_);go_simp
             (first|refine hK _ ?_|refine ⟨.pointer (some ⟨ga,oa+j * 3,none⟩),fun _ _=>if_pos (by omega),hK _ ?_⟩)
             clear hK K2
             refine seqP_take _ rfl (fun K2 hK=>?_);go_simp
             refine ⟨.agg #[.int .u64 (q1:Int),.int .u64 (v1:Int),.string X1],fun a ha=>by obtain ⟨ea0,ea1,ea2⟩:=cells3 ha.1.1;simp only[ea0,ea1,ea2,Result.andThen],hK _ ?_⟩
             clear hK K2
             (refine seqP_take _ rfl (fun K2 hK=>?_);go_simp;(first|refine hK _ ?_|refine ⟨_,fun _ _=>rfl,hK _ ?_⟩);clear hK K2)
             refine seqP_take _ rfl (fun K2 hK=>?_);go_simp
             (first|refine hK _ ?_|refine ⟨.slice (some ⟨gb,ob,none⟩) qs2.length qc2,fun a ha=>by (have e:a.cell? ⟨w.heap.size+1,5,none⟩=some (.slice qo2 qs2.length qc2):=row_cell ha.1.2.2.2 (j:=5) rfl);rw[e,HQB.out];rfl,hK _ ?_⟩)
             clear hK K2
             (refine seqP_take _ rfl (fun K2 hK=>?_);go_simp;(first|refine hK _ ?_|refine ⟨_,fun _ _=>rfl,hK _ ?_⟩);clear hK K2)
             refine seqP_take _ rfl (fun K2 hK=>?_);go_simp
             (first|refine hK _ ?_|refine ⟨.pointer (some ⟨gb,ob+j * 3,none⟩),fun _ _=>if_pos (by omega),hK _ ?_⟩)
             clear hK K2
             refine seqP_take _ rfl (fun K2 hK=>?_);go_simp
             refine ⟨.agg #[.int .u64 (q2:Int),.int .u64 (v2:Int),.string X2],fun a ha=>by obtain ⟨ea0,ea1,ea2⟩:=cells3 ha.1.2.1;simp only[ea0,ea1,ea2,Result.andThen],hK _ ?_⟩
             clear hK K2
             refine seqP_two _ _ rfl rfl (fun K9 hK=>?_) (fun K9 hK=>?_)
             · skip
               go_simp
               obtain ⟨blx,hblx⟩:∃ b,D.heap.size=b:=⟨_,rfl⟩
               obtain ⟨W1,hW⟩:∃ W,D.alloc (.cells #[.int .u64 0,.int .u64 0,.string ⟨#[]⟩] 141)=W:=⟨_,rfl⟩
               have hu:Below D.heap.size D W1:=by rw[←hW];exact below_new _ _
               have HRx:Hid (W1.heap[blx]? = some (.cells #[.int .u64 0,.int .u64 0,.string ⟨#[]⟩] 141 (0,0))):=Lib.hid (by rw[←hW,←hblx];exact heap_alloc_new _ _)
               have HGEx:Hid (N≤blx):=Lib.hid (by rw[←hblx];exact HS6.out.2.2.2.2)
               have HN:=Lib.hid (HS6.out.upd (Upd.of_new (S:=fun _=>False) hu) (fun _ _ h=>h))
               clear HS6
               have HS6:=HN
               clear HN
               have HN:=Lib.hid (below_step HBC.out hu)
               clear HBC
               have HBC:=HN
               clear HN
               rw[hW,hblx]
               clear hW hblx hu
               refine hK.out _ _ HS6.out ?_;clear hK K9
               refine seqP_come _ rfl (fun K9 hK=>?_)
               go_simp
               obtain ⟨bly,hbly⟩:∃ b,W1.heap.size=b:=⟨_,rfl⟩
               obtain ⟨W2,hW⟩:∃ W,W1.alloc (.cells #[.int .u64 0,.int .u64 0,.string ⟨#[]⟩] 141)=W:=⟨_,rfl⟩
               have hu:Below W1.heap.size W1 W2:=by rw[←hW];exact below_new _ _
               have HRy:Hid (W2.heap[bly]? = some (.cells #[.int .u64 0,.int .u64 0,.string ⟨#[]⟩] 141 (0,0))):=Lib.hid (by rw[←hW,←hbly];exact heap_alloc_new _ _)
               have hney:blx≠bly:=by have:=row_lt HRx.out;omega
               have HN:=Lib.hid ((hu.block _ (row_lt HRx.out)).trans HRx.out)
               clear HRx
               have HRx:=HN
               clear HN
               have HGEy:Hid (N≤bly):=Lib.hid (by rw[←hbly];exact HS6.out.2.2.2.2)
               have HN:=Lib.hid (HS6.out.upd (Upd.of_new (S:=fun _=>False) hu) (fun _ _ h=>h))
               clear HS6
               have HS6:=HN
               clear HN
               have HN:=Lib.hid (below_step HBC.out hu)
               clear HBC
               have HBC:=HN
               clear HN
               rw[hW,hbly]
               clear hW hbly hu
               refine hK.out _ _ HS6.out ?_;clear hK K9
               refine seqP_come _ rfl (fun K9 hK=>?_)
               have c0:W2.cell? ⟨blx,0,none⟩=some (.int .u64 0):=row_cell HRx.out (j:=0) rfl
               have f0:W2.frozen? ⟨blx,0,none⟩=false:=row_thaw HRx.out 0
               have c1:W2.cell? ⟨blx,1,none⟩=some (.int .u64 0):=row_cell HRx.out (j:=1) rfl
               have f1:W2.frozen? ⟨blx,1,none⟩=false:=row_thaw HRx.out 1
               have c2:W2.cell? ⟨blx,2,none⟩=some (.string ⟨#[]⟩):=row_cell HRx.out (j:=2) rfl
               have f2:W2.frozen? ⟨blx,2,none⟩=false:=row_thaw HRx.out 2
               go_simp
               clear c0 c1 c2 f0 f1 f2
               obtain ⟨W3,hW⟩:∃ W,((W2.setCell ⟨blx,0,none⟩ (.int .u64 (q1:Int))).setCell ⟨blx,1,none⟩ (.int .u64 (v1:Int))).setCell ⟨blx,2,none⟩ (.string X1)=W:=⟨_,rfl⟩
               obtain ⟨hr,hu⟩:=qu_set HRx.out (.int .u64 (q1:Int)) (.int .u64 (v1:Int)) (.string X1)
               rw[hW] at hr hu
               clear HRx
               have HRx:=Lib.hid hr
               have HN:=Lib.hid ((hu.block _ (row_lt HRy.out) (fun e=>by have e:bly=blx:=e;omega)).trans HRy.out)
               clear HRy
               have HRy:=HN
               clear HN
               have HN:=Lib.hid (HS6.out.upd hu (fun k hk e=>by have e:k=blx:=e;have:=HGEx.out;omega))
               have HN2:=Lib.hid (HBC.out.trans (hu.below HBC.out.size (fun k _ h=>by have h:k=blx:=h;have:=HGEx.out;have:=HS6.out.2.2.2.1;omega)))
               clear HS6 HBC
               have HS6:=HN
               have HBC:=HN2
               clear HN HN2
               rw[hW]
               clear hW hr hu
               refine hK.out _ _ HS6.out ?_;clear hK K9
               refine seqP_come _ rfl (fun K9 hK=>?_)
               have c0:W3.cell? ⟨bly,0,none⟩=some (.int .u64 0):=row_cell HRy.out (j:=0) rfl
               have f0:W3.frozen? ⟨bly,0,none⟩=false:=row_thaw HRy.out 0
               have c1:W3.cell? ⟨bly,1,none⟩=some (.int .u64 0):=row_cell HRy.out (j:=1) rfl
               have f1:W3.frozen? ⟨bly,1,none⟩=false:=row_thaw HRy.out 1
               have c2:W3.cell? ⟨bly,2,none⟩=some (.string ⟨#[]⟩):=row_cell HRy.out (j:=2) rfl
               have f2:W3.frozen? ⟨bly,2,none⟩=false:=row_thaw HRy.out 2
               go_simp
               clear c0 c1 c2 f0 f1 f2
               obtain ⟨W4,hW⟩:∃ W,((W3.setCell ⟨bly,0,none⟩ (.int .u64 (q2:Int))).setCell ⟨bly,1,none⟩ (.int .u64 (v2:Int))).setCell ⟨bly,2,none⟩ (.string X2)=W:=⟨_,rfl⟩
               obtain ⟨hr,hu⟩:=qu_set HRy.out (.int .u64 (q2:Int)) (.int .u64 (v2:Int)) (.string X2)
               rw[hW] at hr hu
               clear HRy
               have HRy:=Lib.hid hr
               have HN:=Lib.hid ((hu.block _ (row_lt HRx.out) (fun e=>by have e:blx=bly:=e;omega)).trans HRx.out)
               clear HRx
               have HRx:=HN
               clear HN
               have HN:=Lib.hid (HS6.out.upd hu (fun k hk e=>by have e:k=bly:=e;have:=HGEy.out;omega))
               have HN2:=Lib.hid (HBC.out.trans (hu.below HBC.out.size (fun k _ h=>by have h:k=bly:=h;have:=HGEy.out;have:=HS6.out.2.2.2.1;omega)))
               clear HS6 HBC
               have HS6:=HN
               have HBC:=HN2
               clear HN HN2
               rw[hW]
               clear hW hr hu
               refine hK.out _ _ HS6.out ?_;clear hK K9
               refine seqP_done ?_
               clear hne
               have yx0:W4.cell? ⟨blx,0,none⟩=some (.int .u64 (q1:Int)):=row_cell HRx.out (j:=0) rfl
               have yx1:W4.cell? ⟨blx,1,none⟩=some (.int .u64 (v1:Int)):=row_cell HRx.out (j:=1) rfl
               have yx2:W4.cell? ⟨blx,2,none⟩=some (.string X1):=row_cell HRx.out (j:=2) rfl
               have yy0:W4.cell? ⟨bly,0,none⟩=some (.int .u64 (q2:Int)):=row_cell HRy.out (j:=0) rfl
               have yy1:W4.cell? ⟨bly,1,none⟩=some (.int .u64 (v2:Int)):=row_cell HRy.out (j:=1) rfl
               have yy2:W4.cell? ⟨bly,2,none⟩=some (.string X2):=row_cell HRy.out (j:=2) rfl
               cases bb with
               | true =>
                have HE:=Lib.hid (alike_iff.1 HBB.out)
                have h9:=HNE.out
                simp only[Bool.true_eq,Bool.and_eq_true,decide_eq_true_eq] at h9
                obtain ⟨⟨h1,h2⟩,h3⟩:=h9
                have e1:((q1:Int) == (q2:Int))=true:=by rw[beq_iff_eq];exact h1
                have ne1:((q1:Int) != (q2:Int))=false:=by rw[bne_eq_false_iff_eq];exact h1
                have e2:((v1:Int) == (v2:Int))=true:=by rw[beq_iff_eq];exact h2
                have ne2:((v1:Int) != (v2:Int))=false:=by rw[bne_eq_false_iff_eq];exact h2
                have e3:(X1.toList == X2.toList)=true:=by rw[beq_iff_eq];exact h3
                have ne3:(X1.toList != X2.toList)=false:=by rw[bne_eq_false_iff_eq];exact h3
                clear h1 h2 h3
                go_wp2_with fail
                have hj:=HJ.out
                go_roundg (gk - 1)
                case measure=>omega
                case rel=>exact ⟨j+1,by simp,by omega,HBC.out,Lib.hid HS6.out.1.2.2.1,Lib.hid HS6.out.1.2.2.2,Lib.hid (by rw[List.take_succ_eq_append_getElem hlt,List.take_succ_eq_append_getElem hltm,HEQ.out,HE.out])⟩
               | false =>
                by_cases h1:(q1:Int)=(q2:Int)
                · have e1:((q1:Int) == (q2:Int))=true:=by rw[beq_iff_eq];exact h1
                  have ne1:((q1:Int) != (q2:Int))=false:=by rw[bne_eq_false_iff_eq];exact h1
                  by_cases h2:(v1:Int)=(v2:Int)
                  · have e2:((v1:Int) == (v2:Int))=true:=by rw[beq_iff_eq];exact h2
                    have ne2:((v1:Int) != (v2:Int))=false:=by rw[bne_eq_false_iff_eq];exact h2
                    have e3:(X1.toList == X2.toList)=false:=by
                      rw[beq_eq_false_iff_ne]
                      intro h3
                      have h9:=HNE.out
                      rw[decide_eq_true h1,decide_eq_true h2,decide_eq_true h3] at h9
                      cases h9
                    have ne3:(X1.toList != X2.toList)=true:=by rw[bne_iff_ne];exact beq_eq_false_iff_ne.1 e3
                    clear h1 h2
                    have hr:r=false:=by rw[←HR.out];exact alike_no (fun h=>by have:=HBB.out;subst h;rw[alike_yes rfl] at this;cases this)
                    subst hr
                    go_wp2_with fail
                    go_ret
                    exact ⟨rfl,HBC.out⟩
                  · have e2:((v1:Int) == (v2:Int))=false:=by rw[beq_eq_false_iff_ne];exact h2
                    have ne2:((v1:Int) != (v2:Int))=true:=by rw[bne_iff_ne];exact h2
                    clear h1 h2
                    have hr:r=false:=by rw[←HR.out];exact alike_no (fun h=>by have:=HBB.out;subst h;rw[alike_yes rfl] at this;cases this)
                    subst hr
                    go_wp2_with fail
                    go_ret
                    exact ⟨rfl,HBC.out⟩
                · have e1:((q1:Int) == (q2:Int))=false:=by rw[beq_eq_false_iff_ne];exact h1
                  have ne1:((q1:Int) != (q2:Int))=true:=by rw[bne_iff_ne];exact h1
                  clear h1
                  have hr:r=false:=by rw[←HR.out];exact alike_no (fun h=>by have:=HBB.out;subst h;rw[alike_yes rfl] at this;cases this)
                  subst hr
                  go_wp2_with fail
                  go_ret
                  exact ⟨rfl,HBC.out⟩
             · skip
               go_simp
               obtain ⟨bly,hbly⟩:∃ b,D.heap.size=b:=⟨_,rfl⟩
               obtain ⟨W5,hW⟩:∃ W,D.alloc (.cells #[.int .u64 0,.int .u64 0,.string ⟨#[]⟩] 141)=W:=⟨_,rfl⟩
               have hu:Below D.heap.size D W5:=by rw[←hW];exact below_new _ _
               have HRy:Hid (W5.heap[bly]? = some (.cells #[.int .u64 0,.int .u64 0,.string ⟨#[]⟩] 141 (0,0))):=Lib.hid (by rw[←hW,←hbly];exact heap_alloc_new _ _)
               have HGEy:Hid (N≤bly):=Lib.hid (by rw[←hbly];exact HS6.out.2.2.2.2)
               have HN:=Lib.hid (HS6.out.upd (Upd.of_new (S:=fun _=>False) hu) (fun _ _ h=>h))
               clear HS6
               have HS6:=HN
               clear HN
               have HN:=Lib.hid (below_step HBC.out hu)
               clear HBC
               have HBC:=HN
               clear HN
               rw[hW,hbly]
               clear hW hbly hu
               refine hK.out _ _ HS6.out ?_;clear hK K9
               refine seqP_come _ rfl (fun K9 hK=>?_)
               go_simp
               obtain ⟨blx,hblx⟩:∃ b,W5.heap.size=b:=⟨_,rfl⟩
               obtain ⟨W6,hW⟩:∃ W,W5.alloc (.cells #[.int .u64 0,.int .u64 0,.string ⟨#[]⟩] 141)=W:=⟨_,rfl⟩
               have hu:Below W5.heap.size W5 W6:=by rw[←hW];exact below_new _ _
               have HRx:Hid (W6.heap[blx]? = some (.cells #[.int .u64 0,.int .u64 0,.string ⟨#[]⟩] 141 (0,0))):=Lib.hid (by rw[←hW,←hblx];exact heap_alloc_new _ _)
               have hnex:bly≠blx:=by have:=row_lt HRy.out;omega
               have HN:=Lib.hid ((hu.block _ (row_lt HRy.out)).trans HRy.out)
               clear HRy
               have HRy:=HN
               clear HN
               have HGEx:Hid (N≤blx):=Lib.hid (by rw[←hblx];exact HS6.out.2.2.2.2)
               have HN:=Lib.hid (HS6.out.upd (Upd.of_new (S:=fun _=>False) hu) (fun _ _ h=>h))
               clear HS6
               have HS6:=HN
               clear HN
               have HN:=Lib.hid (below_step HBC.out hu)
               clear HBC
               have HBC:=HN
               clear HN
               rw[hW,hblx]
               clear hW hblx hu
               refine hK.out _ _ HS6.out ?_;clear hK K9
               refine seqP_come _ rfl (fun K9 hK=>?_)
               have c0:W6.cell? ⟨blx,0,none⟩=some (.int .u64 0):=row_cell HRx.out (j:=0) rfl
               have f0:W6.frozen? ⟨blx,0,none⟩=false:=row_thaw HRx.out 0
               have c1:W6.cell? ⟨blx,1,none⟩=some (.int .u64 0):=row_cell HRx.out (j:=1) rfl
               have f1:W6.frozen? ⟨blx,1,none⟩=false:=row_thaw HRx.out 1
               have c2:W6.cell? ⟨blx,2,none⟩=some (.string ⟨#[]⟩):=row_cell HRx.out (j:=2) rfl
               have f2:W6.frozen? ⟨blx,2,none⟩=false:=row_thaw HRx.out 2
               go_simp
               clear c0 c1 c2 f0 f1 f2
               obtain ⟨W7,hW⟩:∃ W,((W6.setCell ⟨blx,0,none⟩ (.int .u64 (q1:Int))).setCell ⟨blx,1,none⟩ (.int .u64 (v1:Int))).setCell ⟨blx,2,none⟩ (.string X1)=W:=⟨_,rfl⟩
               obtain ⟨hr,hu⟩:=qu_set HRx.out (.int .u64 (q1:Int)) (.int .u64 (v1:Int)) (.string X1)
               rw[hW] at hr hu
               clear HRx
               have HRx:=Lib.hid hr
               have HN:=Lib.hid ((hu.block _ (row_lt HRy.out) (fun e=>by have e:bly=blx:=e;omega)).trans HRy.out)
               clear HRy
               have HRy:=HN
               clear HN
               have HN:=Lib.hid (HS6.out.upd hu (fun k hk e=>by have e:k=blx:=e;have:=HGEx.out;omega))
               have HN2:=Lib.hid (HBC.out.trans (hu.below HBC.out.size (fun k _ h=>by have h:k=blx:=h;have:=HGEx.out;have:=HS6.out.2.2.2.1;omega)))
               clear HS6 HBC
               have HS6:=HN
               have HBC:=HN2
               clear HN HN2
               rw[hW]
               clear hW hr hu
               refine hK.out _ _ HS6.out ?_;clear hK K9
               refine seqP_come _ rfl (fun K9 hK=>?_)
               have c0:W7.cell? ⟨bly,0,none⟩=some (.int .u64 0):=row_cell HRy.out (j:=0) rfl
               have f0:W7.frozen? ⟨bly,0,none⟩=false:=row_thaw HRy.out 0
               have c1:W7.cell? ⟨bly,1,none⟩=some (.int .u64 0):=row_cell HRy.out (j:=1) rfl
               have f1:W7.frozen? ⟨bly,1,none⟩=false:=row_thaw HRy.out 1
               have c2:W7.cell? ⟨bly,2,none⟩=some (.string ⟨#[]⟩):=row_cell HRy.out (j:=2) rfl
               have f2:W7.frozen? ⟨bly,2,none⟩=false:=row_thaw HRy.out 2
               go_simp
               clear c0 c1 c2 f0 f1 f2
               obtain ⟨W8,hW⟩:∃ W,((W7.setCell ⟨bly,0,none⟩ (.int .u64 (q2:Int))).setCell ⟨bly,1,none⟩ (.int .u64 (v2:Int))).setCell ⟨bly,2,none⟩ (.string X2)=W:=⟨_,rfl⟩
               obtain ⟨hr,hu⟩:=qu_set HRy.out (.int .u64 (q2:Int)) (.int .u64 (v2:Int)) (.string X2)
               rw[hW] at hr hu
               clear HRy
               have HRy:=Lib.hid hr
               have HN:=Lib.hid ((hu.block _ (row_lt HRx.out) (fun e=>by have e:blx=bly:=e;omega)).trans HRx.out)
               clear HRx
               have HRx:=HN
               clear HN
               have HN:=Lib.hid (HS6.out.upd hu (fun k hk e=>by have e:k=bly:=e;have:=HGEy.out;omega))
               have HN2:=Lib.hid (HBC.out.trans (hu.below HBC.out.size (fun k _ h=>by have h:k=bly:=h;have:=HGEy.out;have:=HS6.out.2.2.2.1;omega)))
               clear HS6 HBC
               have HS6:=HN
               have HBC:=HN2
               clear HN HN2
               rw[hW]
               clear hW hr hu
               refine hK.out _ _ HS6.out ?_;clear hK K9
               refine seqP_done ?_
               clear hne
               have yx0:W8.cell? ⟨blx,0,none⟩=some (.int .u64 (q1:Int)):=row_cell HRx.out (j:=0) rfl
               have yx1:W8.cell? ⟨blx,1,none⟩=some (.int .u64 (v1:Int)):=row_cell HRx.out (j:=1) rfl
               have yx2:W8.cell? ⟨blx,2,none⟩=some (.string X1):=row_cell HRx.out (j:=2) rfl
               have yy0:W8.cell? ⟨bly,0,none⟩=some (.int .u64 (q2:Int)):=row_cell HRy.out (j:=0) rfl
               have yy1:W8.cell? ⟨bly,1,none⟩=some (.int .u64 (v2:Int)):=row_cell HRy.out (j:=1) rfl
               have yy2:W8.cell? ⟨bly,2,none⟩=some (.string X2):=row_cell HRy.out (j:=2) rfl
               cases bb with
               | true =>
                have HE:=Lib.hid (alike_iff.1 HBB.out)
                have h9:=HNE.out
                simp only[Bool.true_eq,Bool.and_eq_true,decide_eq_true_eq] at h9
                obtain ⟨⟨h1,h2⟩,h3⟩:=h9
                have e1:((q1:Int) == (q2:Int))=true:=by rw[beq_iff_eq];exact h1
                have ne1:((q1:Int) != (q2:Int))=false:=by rw[bne_eq_false_iff_eq];exact h1
                have e2:((v1:Int) == (v2:Int))=true:=by rw[beq_iff_eq];exact h2
                have ne2:((v1:Int) != (v2:Int))=false:=by rw[bne_eq_false_iff_eq];exact h2
                have e3:(X1.toList == X2.toList)=true:=by rw[beq_iff_eq];exact h3
                have ne3:(X1.toList != X2.toList)=false:=by rw[bne_eq_false_iff_eq];exact h3
                clear h1 h2 h3
                go_wp2_with fail
                have hj:=HJ.out
                go_roundg (gk - 1)
                case measure=>omega
                case rel=>exact ⟨j+1,by simp,by omega,HBC.out,Lib.hid HS6.out.1.2.2.1,Lib.hid HS6.out.1.2.2.2,Lib.hid (by rw[List.take_succ_eq_append_getElem hlt,List.take_succ_eq_append_getElem hltm,HEQ.out,HE.out])⟩
               | false =>
                by_cases h1:(q1:Int)=(q2:Int)
                · have e1:((q1:Int) == (q2:Int))=true:=by rw[beq_iff_eq];exact h1
                  have ne1:((q1:Int) != (q2:Int))=false:=by rw[bne_eq_false_iff_eq];exact h1
                  by_cases h2:(v1:Int)=(v2:Int)
                  · have e2:((v1:Int) == (v2:Int))=true:=by rw[beq_iff_eq];exact h2
                    have ne2:((v1:Int) != (v2:Int))=false:=by rw[bne_eq_false_iff_eq];exact h2
                    have e3:(X1.toList == X2.toList)=false:=by
                      rw[beq_eq_false_iff_ne]
                      intro h3
                      have h9:=HNE.out
                      rw[decide_eq_true h1,decide_eq_true h2,decide_eq_true h3] at h9
                      cases h9
                    have ne3:(X1.toList != X2.toList)=true:=by rw[bne_iff_ne];exact beq_eq_false_iff_ne.1 e3
                    clear h1 h2
                    have hr:r=false:=by rw[←HR.out];exact alike_no (fun h=>by have:=HBB.out;subst h;rw[alike_yes rfl] at this;cases this)
                    subst hr
                    go_wp2_with fail
                    go_ret
                    exact ⟨rfl,HBC.out⟩
                  · have e2:((v1:Int) == (v2:Int))=false:=by rw[beq_eq_false_iff_ne];exact h2
                    have ne2:((v1:Int) != (v2:Int))=true:=by rw[bne_iff_ne];exact h2
                    clear h1 h2
                    have hr:r=false:=by rw[←HR.out];exact alike_no (fun h=>by have:=HBB.out;subst h;rw[alike_yes rfl] at this;cases this)
                    subst hr
                    go_wp2_with fail
                    go_ret
                    exact ⟨rfl,HBC.out⟩
                · have e1:((q1:Int) == (q2:Int))=false:=by rw[beq_eq_false_iff_ne];exact h1
                  have ne1:((q1:Int) != (q2:Int))=true:=by rw[bne_iff_ne];exact h1
                  clear h1
                  have hr:r=false:=by rw[←HR.out];exact alike_no (fun h=>by have:=HBB.out;subst h;rw[alike_yes rfl] at this;cases this)
                  subst hr
                  go_wp2_with fail
                  go_ret
                  exact ⟨rfl,HBC.out⟩
           · have hjn:j=qs1.length:=by have:=HJ.out;omega
             have hr:r=true:=by
               rw[←HR.out]
               refine alike_yes ?_
               have h:=HEQ.out
               rw[hjn,List.take_length,HLE.out,List.take_length] at h
               exact h
             subst hr
             clear hjn
             go_wp2_with fail
             go_ret
             exact ⟨rfl,HBR.out⟩
end Go.Proofs.YtjbingoliffjiaaGreatDoor
