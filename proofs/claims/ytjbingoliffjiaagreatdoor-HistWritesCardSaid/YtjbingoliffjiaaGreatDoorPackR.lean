/-
  hygref8.Packed, PutOpt, PutFixeds; hygref13.opts.
-/
import Derived.Test.YtjbingoliffjiaaGreatDoorNumsK
import Derived.Test.YtjbingoliffjiaaGreatDoorPutsV
import Derived.Test.YtjbingoliffjiaaGreatDoorWireRA
set_option maxRecDepth 1000000
set_option maxHeartbeats 16000000
namespace Go.Proofs.YtjbingoliffjiaaGreatDoor
open Go.RowKit
theorem putopt8_any (num:Nat) (c:Bool) (n:Nat) (w:World) (h1:1≤num) (h2:num≤536870911) (hn:n<18446744073709551616):Calls Tryz.prog 91 #[.int .i64 (num:Int),.agg #[.bool c,.int .u64 (n:Int)]] w (RoPost (if c=true then (rF num n).raw else []) w):=by
 obtain ⟨W0,hW0⟩:∃ W,w.alloc (.cells #[.bool c,.int .u64 (n:Int)] 47)=W:=⟨_,rfl⟩
 have HB0:Hid (Below w.heap.size w W0):=Lib.hid (by rw[←hW0];exact below_new _ _)
 have HF:=Lib.hid (fixed8_any num n W0 h1 h2 hn)
 have HW0:=Lib.hid hW0
 clear hW0
 cases c with
 | false =>
  rw[if_neg (by simp)]
  go_enter Tryz.func91,Tryz.ntmps91
  go_wp2_with fail
  rw[HW0.out]
  go_ret
  exact ⟨HB0.out,_,rfl,Lib.hid rfl⟩
 | true =>
  rw[if_pos rfl]
  go_enter Tryz.func91,Tryz.ntmps91
  go_wp2_with fail
  rw[HW0.out]
  refine HF.out.mono ?_;rintro e w1 ⟨hb,R,rfl,hR⟩
  have HB1:=Lib.hid (below_step HB0.out hb)
  clear hb
  go_wp2_with fail
  go_ret
  exact ⟨HB1.out,R,rfl,hR⟩
theorem eights_tk8 (l:List Nat) (k:Nat) (h:k<l.length):eights (l.take (k+1))=eights (l.take k)++eight 8 l[k]:=by
 unfold eights
 rw[List.take_succ_eq_append_getElem h,List.flatMap_append]
 simp
theorem putfix8_any (num:Nat) (l:List Nat) (ao:Option Addr) (cap:Nat) (w:World) (h1:1≤num) (h2:num≤536870911) (hN:Hid (Nats .u64 w ao l)) (hn:Hid (∀ n∈l,n<18446744073709551616)) (hl:l.length≤100000):Calls Tryz.prog 92 #[.int .i64 (num:Int),.slice ao l.length cap] w (RoPost (if l=[] then [] else (rB num (eights l)).raw) w):=by
 obtain ⟨TT,HTT⟩:∃ T,Hid ((if l=[] then [] else (rB num (eights l)).raw)=T):=⟨_,Lib.hid rfl⟩
 rw[HTT.out]
 go_enter Tryz.func92,Tryz.ntmps92
 go_wp2_with fail
 go_loopg [5,6] l.length (fun k s i wr=>∃ (j:Nat) (SS:ByteArray),s = .string SS∧i = .int .i64 (j:Int)∧j+k=l.length∧Below w.heap.size w wr∧Hid (SS.data.toList=eights (l.take j)))
 case atStart=>exact ⟨0,_,rfl,rfl,by omega,Below.refl _ _,Lib.hid rfl⟩
 case round =>
  obtain ⟨j,SS,rfl,rfl,hj,hbr,HSS⟩:=hrel
  have HBR:=Lib.hid hbr
  have HJ:=Lib.hid hj
  have hzs:SS.size=8 * (l.take j).length:=by
   have h1:SS.size=SS.data.toList.length:=by simp
   rw[HSS.out,eights_len] at h1
   exact h1
  rw[List.length_take] at hzs
  have hzs:SS.size≤800000:=by omega
  clear hbr hj
  by_cases hlt:j<l.length
  ·obtain ⟨g,off,n,HNV,rfl,hg1,hcell⟩:=(hN.out.below HBR.out).at hlt
   have HTK:Hid (eights (l.take (j+1))=eights (l.take j)++eight 8 n):=Lib.hid (by rw[eights_tk8 l j hlt,HNV.out])
   have hn9:n<18446744073709551616:=by rw[HNV.out];exact hn.out _ (List.getElem_mem hlt)
   have HEI:=Lib.hid (reight_any n wr)
   obtain ⟨E8,hE8⟩:∃ X:ByteArray,(⟨(eight 8 n).toArray⟩:ByteArray)=X:=⟨_,rfl⟩
   have HE8:Hid (E8.data.toList=eight 8 n):=Lib.hid (by rw[←hE8])
   have hz8:E8.size=8:=(show E8.size=E8.data.toList.length by simp).trans (by rw[HE8.out,eight_len])
   have hov:¬9223372036854775807<SS.size+E8.size:=by omega
   rw[hE8] at HEI
   clear hE8 hn9 hz8
   go_wp2_with fail
   refine HEI.out.mono ?_;rintro e w4 ⟨rfl,hb4⟩
   have HBW:=Lib.hid (below_step HBR.out hb4)
   clear hb4
   go_wp2_with fail
   have hj:=HJ.out
   go_roundg (gk - 1)
   case measure=>omega
   case rel=>exact ⟨j+1,SS++E8,rfl,by simp,by omega,HBW.out,Lib.hid (by rw[ByteArray.data_append,Array.toList_append,HSS.out,HE8.out,HTK.out])⟩
  ·have hjn:j=l.length:=by have:=HJ.out;omega
   have HSE:Hid (SS.data.toList=eights l):=Lib.hid (by have h:=HSS.out;rwa [hjn,List.take_length] at h)
   have HT:=Lib.hid (puttext8r_any num SS (eights l) wr h1 h2 HSE (by rw[eights_len];omega))
   clear hjn
   go_wp2_with fail
   refine HT.out.mono ?_;rintro e w5 ⟨hb5,R,rfl,hR⟩
   have HB5:=Lib.hid (below_step HBR.out hb5)
   clear hb5
   go_wp2_with fail
   go_ret
   refine ⟨HB5.out,R,rfl,Lib.hid ?_⟩
   rw[hR.out,←HTT.out]
   have e0:(eights l=[])=(l=[]):=propext ⟨fun h=>by
    have h1:=eights_len l
    rw[h] at h1
    exact List.length_eq_zero_iff.1 (by simp at h1;omega),fun h=>by rw[h];rfl⟩
   simp only[e0]
theorem mayopt8_any (c:Bool) (n:Nat) (w:World):Calls Tryz.prog 140 #[.agg #[.bool c,.int .u64 (n:Int)]] w fun e w'=>e = .returned (.bool (c||decide (n=0)))∧Below w.heap.size w w':=by
 have HB0:Hid (Below w.heap.size w (w.alloc (.cells #[.bool c,.int .u64 (n:Int)] 47))):=Lib.hid (below_new _ _)
 cases c with
 | true =>
  go_enter Tryz.func140,Tryz.ntmps140
  go_wp2_with fail
  go_ret
  exact ⟨rfl,HB0.out⟩
 | false =>
  have hb:Hid ((false||decide (n=0))=((n:Int) == 0)):=Lib.hid (by
   rw[Bool.false_or,show ((0:Int))=((0:Nat):Int) from rfl,ibeq])
  go_enter Tryz.func140,Tryz.ntmps140
  go_wp2_with fail
  go_ret
  exact ⟨by rw[hb.out];rfl,HB0.out⟩
theorem row2o {w:World} {g:Nat} {c0 c1:Value} {T:TypeId} {fr:Nat × Nat} (h:w.heap[g]? = some (.cells #[c0,c1] T fr)):w.cell? ⟨g,0,none⟩=some c0∧w.cell? ⟨g,1,none⟩=some c1:=⟨row_cell h (j:=0) rfl,row_cell h (j:=1) rfl⟩
theorem opts8_any (a:Bool) (x:Nat) (b:Bool) (y:Nat) (c:Bool) (z:Nat) (w:World):Calls Tryz.prog 88 #[.agg #[.bool a,.int .u64 (x:Int)],.agg #[.bool b,.int .u64 (y:Int)],.agg #[.bool c,.int .u64 (z:Int)]] w fun e w'=>e = .returned (.bool ((a||decide (x=0))&&((b||decide (y=0))&&(c||decide (z=0)))))∧Below w.heap.size w w':=by
 obtain ⟨ba,hba⟩:∃ ba,w.heap.size=ba:=⟨_,rfl⟩
 obtain ⟨W0,hW0⟩:∃ W,((w.alloc (.cells #[.bool a,.int .u64 (x:Int)] 47)).alloc (.cells #[.bool b,.int .u64 (y:Int)] 47)).alloc (.cells #[.bool c,.int .u64 (z:Int)] 47)=W:=⟨_,rfl⟩
 have HB0:Hid (Below w.heap.size w W0):=Lib.hid (by rw[←hW0];exact below_step (below_step (below_new _ _) (below_new _ _)) (below_new _ _))
 have h3:=new_three_c hba (.cells #[.bool a,.int .u64 (x:Int)] 47) (.cells #[.bool b,.int .u64 (y:Int)] 47) (.cells #[.bool c,.int .u64 (z:Int)] 47)
 rw[hW0] at h3
 have H1:=Lib.hid h3.1
 have H2:=Lib.hid h3.2.1
 have H3:=Lib.hid h3.2.2
 have HA:=Lib.hid (fun w'=>mayopt8_any a x w')
 have HBB:=Lib.hid (fun w'=>mayopt8_any b y w')
 have HC:=Lib.hid (fun w'=>mayopt8_any c z w')
 obtain ⟨qa,hqa⟩:∃ q,(a||decide (x=0))=q:=⟨_,rfl⟩
 obtain ⟨qb,hqb⟩:∃ q,(b||decide (y=0))=q:=⟨_,rfl⟩
 obtain ⟨qc,hqc⟩:∃ q,(c||decide (z=0))=q:=⟨_,rfl⟩
 rw[hqa] at HA ⊢
 rw[hqb] at HBB ⊢
 rw[hqc] at HC ⊢
 have HW0:=Lib.hid hW0
 have HBA:=Lib.hid hba
 obtain ⟨p0,p1⟩:=row2o H1.out
 clear hW0 hba h3 hqa hqb hqc
 go_enter Tryz.func88,Tryz.ntmps88
 go_wp2_with fail
 rw[HW0.out,HBA.out]
 go_wp2_with fail
 refine (HA.out W0).mono ?_;rintro e w4 ⟨rfl,hb4⟩
 have HB4:=Lib.hid (below_step HB0.out hb4)
 have K2:=Lib.hid ((hb4.block _ (row_lt H2.out)).trans H2.out)
 have K3:=Lib.hid ((hb4.block _ (row_lt H3.out)).trans H3.out)
 clear p0 p1 hb4
 cases qa with
 | false =>
  go_wp2_with fail
  go_ret
  exact ⟨rfl,HB4.out⟩
 | true =>
  obtain ⟨p0,p1⟩:=row2o K2.out
  go_wp2_with fail
  refine (HBB.out w4).mono ?_;rintro e w5 ⟨rfl,hb5⟩
  have HB5:=Lib.hid (below_step HB4.out hb5)
  have L3:=Lib.hid ((hb5.block _ (row_lt K3.out)).trans K3.out)
  clear p0 p1 hb5
  cases qb with
  | false =>
   go_wp2_with fail
   go_ret
   exact ⟨rfl,HB5.out⟩
  | true =>
   obtain ⟨p0,p1⟩:=row2o L3.out
   go_wp2_with fail
   refine (HC.out w5).mono ?_;rintro e w6 ⟨rfl,hb6⟩
   have HB6:=Lib.hid (below_step HB5.out hb6)
   clear p0 p1 hb6
   cases qc
   all_goals
    go_wp2_with fail
    go_ret
    exact ⟨rfl,HB6.out⟩
end Go.Proofs.YtjbingoliffjiaaGreatDoor
