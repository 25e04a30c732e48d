/-
  ExMar, PutsV
-/
import Derived.Test.YtjbingoliffjiaaGreatDoorHiTakes
import Derived.Test.YtjbingoliffjiaaGreatDoorExBack
import Derived.Test.YtjbingoliffjiaaGreatDoorPartK
import Derived.Test.YtjbingoliffjiaaGreatDoorErrNew
import Derived.Test.YtjbingoliffjiaaGreatDoorValMar
import Derived.Test.YtjbingoliffjiaaGreatDoorRefTab
import Derived.Test.YtjbingoliffjiaaGreatDoorRefMsg
import Derived.Test.YtjbingoliffjiaaGreatDoorHiBack
import Derived.Test.YtjbingoliffjiaaGreatDoorRefOut
set_option maxRecDepth 1000000
set_option maxHeartbeats 16000000
namespace Go.Proofs.YtjbingoliffjiaaGreatDoor
open Go.RowKit
theorem ex_marshal_if (x:Ex) (hM:Hid (x.1.2.2≠[]→KMar)) (cs:List Value) (Q:Nat→Prop) (d:Int) (w:World) (hf:ex_fit x) (hr:exCel.R w Q x cs) (hd : -9223372036854775808≤d∧d≤9223372036854775807) :
  Calls Tryz.prog 68 #[.agg cs.toArray,.int .i64 d] w (MarPost (ex_may d x) (ex_out x) w):=by
 obtain ⟨⟨t,⟨⟨⟨k,n⟩,⟨a,b⟩⟩,l⟩⟩,u⟩:=x
 obtain ⟨lo,lc,rfl,hr⟩:=hr
 have HR:=Lib.hid (KRels.lt _ _ _ hr)
 have HD:=Lib.hid hd
 obtain ⟨hnt,hnn,hfl,hw⟩:=hf
 have HFK:=Lib.hid hw
 have HNT:=Lib.hid hnt
 have HNN:=Lib.hid hnn
 have HFL:=Lib.hid hfl
 obtain ⟨Xa,hXa⟩:∃ U:ByteArray,(⟨a.toArray⟩:ByteArray)=U:=⟨_,rfl⟩
 obtain ⟨Xb,hXb⟩:∃ U:ByteArray,(⟨b.toArray⟩:ByteArray)=U:=⟨_,rfl⟩
 obtain ⟨Xu,hXu⟩:∃ U:ByteArray,(⟨u.toArray⟩:ByteArray)=U:=⟨_,rfl⟩
 have HXa:Hid (Xa.data.toList=a):=Lib.hid (by rw[←hXa])
 have HXb:Hid (Xb.data.toList=b):=Lib.hid (by rw[←hXb])
 have HU:=Lib.hid hXu
 dsimp only[strV]
 rw[hXa,hXb,hXu]
 obtain ⟨mx,hmx⟩:∃ m,ex_may d ((t,(((k,n),(a,b)),l)),u)=m:=⟨_,rfl⟩
 obtain ⟨ox,hox⟩:∃ m,ex_out ((t,(((k,n),(a,b)),l)),u)=m:=⟨_,rfl⟩
 rw[hmx,hox]
 have HMX:=Lib.hid hmx
 have HOX:=Lib.hid hox
 obtain ⟨W0,hW0⟩:∃ W,w.alloc (.cells #[.slice lo l.length lc,.int .u64 (t:Int),.int .i64 k,.int .u64 (n:Int),.string Xa,.string Xb,.string Xu] 91)=W:=⟨_,rfl⟩
 obtain ⟨bx,hbx⟩:∃ bx,w.heap.size=bx:=⟨_,rfl⟩
 have HB0:Hid (Below w.heap.size w W0):=Lib.hid (by rw[←hW0];exact below_new _ _)
 have HX0:Hid (W0.heap[bx]? = some (.cells #[.slice lo l.length lc,.int .u64 (t:Int),.int .i64 k,.int .u64 (n:Int),.string Xa,.string Xb,.string Xu] 91 (0,0))):=Lib.hid (by rw[←hW0,←hbx];exact heap_alloc_new _ _)
 have HW0:=Lib.hid hW0
 have HBX:=Lib.hid hbx
 have HET:=Lib.hid (enters_of Tryz.func124 (by kernel_rfl) rfl)
 clear hW0 hbx hr hd hmx hox hXa hXb hXu hnt hnn hfl hw
 go_enter Tryz.func68,Tryz.ntmps68
 go_wp2_with fail
 rw[HW0.out,HBX.out]
 refine (wmnew_any d W0).mono ?_;rintro e wz ⟨rfl,hb1,P1,hw1,hp1⟩
 obtain ⟨p,hp⟩:∃ p,W0.heap.size=p:=⟨_,rfl⟩
 have hpp:bx<p:=by rw[←hp];exact row_lt HX0.out
 rw[hp] at hw1 hb1 hp1 ⊢
 have HB1:Hid (Below p W0 wz):=Lib.hid hb1
 have HP1:Hid (∀ k,P1 k→p≤k):=Lib.hid hp1
 have HPE:=Lib.hid hp
 have HS:=Lib.hid (WSx.start (wh_new hw1) (Below.refl _ _) ((hb1.block _ hpp).trans HX0.out) (fun h=>by have:=hp1 bx h;omega))
 have HR1:Hid (KRels wz (fun k=>Q k∧k<w.heap.size) l lo 0):=Lib.hid (KRels.upd (Upd.of_new (S:=fun _=>False) (HB0.out.trans (hb1.mono (by have:=HB0.out.size;omega)))) (fun _ _ h=>h) (fun _ h=>h) l lo 0 HR.out)
 have HQ1:Hid (∀ k,Q k∧k<w.heap.size→k<p∧k<wz.heap.size):=Lib.hid (fun k hk=>by have:=HB0.out.size;have:=hb1.size;omega)
 clear hb1 hw1 hp1 hp
 have xc:wz.cell? ⟨bx,2,none⟩=some (.int .i64 k):=HS.out.cell rfl
 have xn:wz.cell? ⟨bx,3,none⟩=some (.int .u64 (n:Int)):=HS.out.cell rfl
 go_wp2_with fail
 refine (wv_kind k n (Lib.hid HS.out.so.wr)).mono ?_;intro e wz hpost
 obtain ⟨qs2,P2,rfl,hs⟩:=HS.out.next hpost
 have HSN:=Lib.hid hs
 clear hpost hs HS xc xn
 have HS:=HSN
 clear HSN
 have xc:wz.cell? ⟨bx,1,none⟩=some (.int .u64 (t:Int)):=HS.out.cell rfl
 go_wp2_with fail
 refine (wv_num 2 t HS.out.so.wr HNT.out (by omega) (by omega) (by have:=HS.out.so.len;have:=HFK.out;simp only[List.nil_append];omega) (by have:=HS.out.so.size;have:=HFK.out;simp only[List.nil_append];omega)).mono ?_;intro e wz hpost
 obtain ⟨qs2,P2,rfl,hs⟩:=HS.out.next hpost
 have HSN:=Lib.hid hs
 clear hpost hs HS xc
 have HS:=HSN
 clear HSN
 have hkk:((k == 1)=true∧(k == 2)=false)∨((k == 1)=false∧(k == 2)=true)∨((k == 1)=false∧(k == 2)=false):=by
   by_cases h1:k=1
   · subst h1;left;exact ⟨rfl,rfl⟩
   · by_cases h2:k=2
     · subst h2;right;left;exact ⟨rfl,rfl⟩
     · right;right;exact ⟨beq_eq_false_iff_ne.2 h1,beq_eq_false_iff_ne.2 h2⟩
 rcases hkk with ⟨c1,c2⟩|⟨c1,c2⟩|⟨c1,c2⟩
 all_goals
  have xc:wz.cell? ⟨bx,2,none⟩=some (.int .i64 k):=HS.out.cell rfl
  have xn:wz.cell? ⟨bx,3,none⟩=some (.int .u64 (n:Int)):=HS.out.cell rfl
  have xd:wz.cell? ⟨bx,4,none⟩=some (.string Xa):=HS.out.cell rfl
  go_wp2_with fail
  first
  | (go_at_call 66
     refine (wfixed_any 3 n _ (by omega) (by omega) HNN.out).mono ?_;rintro e wz ⟨rfl,hbz⟩
     rw[show wrec 3 1 (eight 8 n)=(rF 3 n).raw from rF_wrec (num:=3) (by omega) (by omega) n]
     have HSN:=Lib.hid (HS.out.below hbz)
     clear hbz HS xc xn xd
     have HS:=HSN
     clear HSN
     go_wp2_with fail
     refine ((wv_put (rF 3 n).raw HS.out.so.wr (by have:=HS.out.so.len;have:=HFK.out;simp only[List.nil_append];omega) (by have:=rF_len20 3 n;have:=HS.out.so.size;have:=HFK.out;simp only[List.nil_append];omega)).mono (fun _ _ h=>wv_if (k=1) (eq_of_beq c1) (h.le (Nat.le_refl _) (rF_len20 3 n)))).mono ?_;intro e wz hpost
     obtain ⟨qs2,P2,rfl,hs⟩:=HS.out.next hpost
     have HSN:=Lib.hid hs
     clear hpost hs HS
     have HS:=HSN
     clear HSN)
  | (have HSN:=Lib.hid (HS.out.skip (k=1) (fun h=>by rw[h] at c1;simp at c1) (rF 3 n).raw 20)
     clear HS xc xn xd
     have HS:=HSN
     clear HSN)
  have xc:wz.cell? ⟨bx,4,none⟩=some (.string Xa):=HS.out.cell rfl
  try go_wp2_with fail
  refine (wv_bytes 4 Xa a HS.out.so.wr HXa.out (by omega) (by omega) (by have:=HFK.out;omega) (by have:=HS.out.so.len;have:=HFK.out;simp only[List.nil_append];omega) (by have:=HS.out.so.size;have:=HFK.out;simp only[List.nil_append];omega)).mono ?_;intro e wz hpost
  obtain ⟨qs2,P2,rfl,hs⟩:=HS.out.next hpost
  have HSN:=Lib.hid hs
  clear hpost hs HS xc
  have HS:=HSN
  clear HSN
  have xc:wz.cell? ⟨bx,5,none⟩=some (.string Xb):=HS.out.cell rfl
  go_wp2_with fail
  refine (wv_bytes 5 Xb b HS.out.so.wr HXb.out (by omega) (by omega) (by have:=HFK.out;omega) (by have:=HS.out.so.len;have:=HFK.out;simp only[List.nil_append];omega) (by have:=HS.out.so.size;have:=HFK.out;simp only[List.nil_append];omega)).mono ?_;intro e wz hpost
  obtain ⟨qs2,P2,rfl,hs⟩:=HS.out.next hpost
  have HSN:=Lib.hid hs
  clear hpost hs HS xc
  have HS:=HSN
  clear HSN
  have xc:wz.cell? ⟨bx,2,none⟩=some (.int .i64 k):=HS.out.cell rfl
  have xn:wz.cell? ⟨bx,3,none⟩=some (.int .u64 (n:Int)):=HS.out.cell rfl
  have xd:wz.cell? ⟨bx,0,none⟩=some (.slice lo l.length lc):=HS.out.cell rfl
  go_wp2_with fail
  first
  | (go_at_call 66
     refine (wfixed_any 6 n _ (by omega) (by omega) HNN.out).mono ?_;rintro e wz ⟨rfl,hbz⟩
     rw[show wrec 6 1 (eight 8 n)=(rF 6 n).raw from rF_wrec (num:=6) (by omega) (by omega) n]
     have HSN:=Lib.hid (HS.out.below hbz)
     clear hbz HS xc xn xd
     have HS:=HSN
     clear HSN
     go_wp2_with fail
     refine ((wv_put (rF 6 n).raw HS.out.so.wr (by have:=HS.out.so.len;have:=HFK.out;simp only[List.nil_append];omega) (by have:=rF_len20 6 n;have:=HS.out.so.size;have:=HFK.out;simp only[List.nil_append];omega)).mono (fun _ _ h=>wv_if (k=2) (eq_of_beq c2) (h.le (Nat.le_refl _) (rF_len20 6 n)))).mono ?_;intro e wz hpost
     obtain ⟨qs2,P2,rfl,hs⟩:=HS.out.next hpost
     have HSN:=Lib.hid hs
     clear hpost hs HS
     have HS:=HSN
     clear HSN)
  | (have HSN:=Lib.hid (HS.out.skip (k=2) (fun h=>by rw[h] at c2;simp at c2) (rF 6 n).raw 20)
     clear HS xc xn xd
     have HS:=HSN
     clear HSN)
  have xc:wz.cell? ⟨bx,0,none⟩=some (.slice lo l.length lc):=HS.out.cell rfl
  try go_wp2_with fail
  refine (listk_if l hM p d _ [] _ _ (fun k=>Q k∧k<w.heap.size) wz 7 lo lc HFL.out (KRels.upd HS.out.so.upd (fun k hk h=>by have:=HP1.out k h;have:=HQ1.out k hk;omega) (fun _ h=>h) l lo 0 HR1.out) (fun k hk h=>by have:=HQ1.out k hk;rcases HS.out.so.new k h with h|h;(have:=HP1.out k h;omega);omega) HS.out.so.wr (by by_cases h:d<0;(left;simp[h]);(right;omega)) HD.out (by omega) ⟨by have:=HS.out.so.len;have:=HFK.out;simp only[List.nil_append];omega,by have:=HS.out.so.size;have:=HFK.out;simp only[List.nil_append];omega,by have:=HFK.out;omega⟩).mono ?_;intro e wz hpost
  obtain ⟨qs2,P2,rfl,hs⟩:=HS.out.next hpost
  have HSN:=Lib.hid hs
  clear hpost hs HS xc
  have HS:=HSN
  clear HSN
  have xc:wz.cell? ⟨bx,6,none⟩=some (.string Xu):=HS.out.cell rfl
  go_wp2_with fail
  refine (wv_rest Xu u exF.tk 124 HS.out.so.wr HU.out.symm (by have:=HFK.out;omega) (by have:=HS.out.so.len;have:=HFK.out;simp only[List.nil_append];omega) (by have:=HS.out.so.size;have:=HFK.out;simp only[List.nil_append];omega) HET.out (fun r w=>extakes_any r w)).mono ?_;intro e wz hpost
  obtain ⟨qs2,P2,rfl,hs⟩:=HS.out.next hpost
  have HSN:=Lib.hid hs
  clear hpost hs HS xc
  have HS:=HSN
  clear HSN
  go_wp2_with fail
  obtain ⟨vo,P0,hwa,_⟩:=HS.out.so.wr
  have HWA:=Lib.hid hwa
  have HLB:=Lib.hid (And.intro HS.out.so.len HS.out.so.size)
  clear hwa
  refine (wend_any p d vo _ _ P0 _ HWA (by have:=HLB.out.1;simp only[List.nil_append];(have:=HFK.out;omega)) (by have:=HLB.out.2;simp only[List.nil_append];(have:=HFK.out;omega))).mono ?_;rintro e w9 ⟨hb9,hcase⟩
  have HB9:=Lib.hid (mar_below HB0.out HPE.out HB1.out HS.out.so.upd HP1.out hb9)
  have HBY:=Lib.hid HS.out.so.bytes
  obtain ⟨bb,hbb⟩:∃ bb,(decide (d<0)||!((((((((true&&decide (k=0∧n=0∨k=1∨k=2))&&true)&&true)&&true)&&true)&&true)&&kmays l d)&&munkOk exF.tk u d))=bb:=⟨_,rfl⟩
  rw[hbb] at hcase HBY
  have HBB:Hid (mx=!bb):=Lib.hid (by
    rw[←HMX.out,←hbb]
    show (decide (0≤d)&&((decide (k=0∧n=0∨k=1∨k=2)&&kmays l d)&&munkOk exF.tk u d))=_
    by_cases h:d<0
    · rw[decide_eq_true h,decide_eq_false (by omega:¬0≤d)];rfl
    · rw[decide_eq_false h,decide_eq_true (by omega:0≤d)]
      simp only[Bool.true_and,Bool.and_true,Bool.false_or,Bool.not_not,Bool.and_assoc])
  clear hb9 hbb
  cases bb with
  | true =>
    rw[if_pos rfl] at hcase
    obtain ⟨v,rfl,hec⟩:=hcase
    obtain ⟨T',y,rfl⟩:=hec.iface
    have HEC:=Lib.hid hec
    clear hec
    go_wp2_with fail
    go_ret2
    refine ⟨HB9.out,?_⟩
    rw[HBB.out,if_neg (by simp)]
    exact ⟨_,rfl,HEC.out⟩
  | false =>
    rw[if_neg (by simp)] at hcase
    subst hcase
    have hq9:=HBY.out rfl
    rw[List.nil_append,hq9]
    have hoe:([]++[]++(if t=0 then [] else (rF 2 t).raw)++(if k=1 then (rF 3 n).raw else [])++(if a=[] then [] else (rB 4 a).raw)++(if b=[] then [] else (rB 5 b).raw)++(if k=2 then (rF 6 n).raw else [])++kouts 7 l++u:List UInt8)=ox:=by
      rw[←HOX.out]
      show _=(if t=0 then [] else (rF 2 t).raw)++(if k=1 then (rF 3 n).raw else [])++(if a=[] then [] else (rB 4 a).raw)++(if b=[] then [] else (rB 5 b).raw)++(if k=2 then (rF 6 n).raw else [])++kouts 7 l++u
      simp only[List.nil_append]
    rw[hoe]
    clear hoe hq9
    go_wp2_with fail
    go_ret2
    refine ⟨HB9.out,?_⟩
    rw[HBB.out,if_pos (show (!false)=true from rfl)]
    rfl
open Go.RowKit
open Go.RowKit
theorem ex_marshal (x:Ex) (cs:List Value) (Q:Nat→Prop) (d:Int) (w:World) (hf:ex_fit x) (hr:exCel.R w Q x cs) (hd : -9223372036854775808≤d∧d≤9223372036854775807) :
    Calls Tryz.prog 68 #[.agg cs.toArray,.int .i64 d] w (MarPost (ex_may d x) (ex_out x) w):=ex_marshal_if x (Lib.hid fun _=>kmar_any) cs Q d w hf hr hd
open Go.RowKit
theorem hi_marshal (x:Hi) (cs:List Value) (Q:Nat→Prop) (d:Int) (w:World) (hf:hi_fit x) (hr:hiCel.R w Q x cs) (hd : -9223372036854775808≤d∧d≤9223372036854775807) :
    Calls Tryz.prog 28 #[.agg cs.toArray,.int .i64 d] w (MarPost (hi_may d x) (hi_out x) w):=hi_marshal_if x (Lib.hid fun _=>kmar_any) (Lib.hid fun _=>ex_marshal) cs Q d w hf hr hd
theorem hi_size (x:Hi) (cs:List Value) (Q:Nat→Prop) (w:World) (hf:hi_fit x) (hr:hiCel.R w Q x cs) (hm:hi_may 262144 x=true) :
 Calls Tryz.prog 31 #[.agg cs.toArray] w fun e w'=>e = .returned (.int .i64 ((hi_out x).length:Int))∧Below w.heap.size w w':=hi_size_if x (Lib.hid fun _=>kmar_any) (Lib.hid fun _=>ex_marshal) cs Q w hf hr hm
theorem hi_mayc (x:Hi) (cs:List Value) (Q:Nat→Prop) (d:Int) (w:World) (hf:hi_fit x) (hr:hiCel.R w Q x cs) (hd : -9223372036854775808≤d∧d≤9223372036854775807) :
 Calls Tryz.prog 29 #[.agg cs.toArray,.int .i64 d] w fun e w'=>e = .returned (.bool (hi_may d x))∧Below w.heap.size w w':=by
 have HM:=Lib.hid (fun w' (hb:Below w.heap.size w w')=>hi_marshal x cs Q d w' hf (hiCel.upd (Upd.of_new (S:=fun _=>False) hb) (fun _ _ h=>h) (fun _ h=>h) hr) hd)
 obtain ⟨⟨a,⟨t,⟨k,⟨⟨ph,pn⟩,⟨nc,⟨nb,⟨es,⟨l,⟨f,⟨⟨mh,mn⟩,⟨gh,gn⟩⟩⟩⟩⟩⟩⟩⟩⟩⟩⟩,u⟩:=x
 obtain ⟨lo,lc,nco,ncc,nbo,nbc,eo,ec,rfl,_,_,_,_⟩:=hr
 obtain ⟨g,hg⟩:∃ g,hi_may d ((a,(t,(k,((ph,pn),(nc,(nb,(es,(l,(f,((mh,mn),(gh,gn))))))))))),u)=g:=⟨_,rfl⟩
 rw[hg] at HM ⊢
 dsimp only[strV] at HM ⊢
 obtain ⟨Xu,hXu⟩:∃ U:ByteArray,(⟨u.toArray⟩:ByteArray)=U:=⟨_,rfl⟩
 rw[hXu] at HM ⊢
 clear hXu
 obtain ⟨W,hW⟩:∃ W,w.alloc (.cells #[.slice lo l.length lc,.int .u64 (a:Int),.int .u64 (t:Int),.int .u64 (k:Int),.bool ph,.int .u64 (pn:Int),.bool mh,.int .u64 (mn:Int),.bool gh,.int .u64 (gn:Int),.slice nco nc.length ncc,.slice nbo nb.length nbc,.slice eo es.length ec,.int .u32 (f:Int),.string Xu] 50)=W:=⟨_,rfl⟩
 have HB0:Hid (Below w.heap.size w W):=Lib.hid (by rw[←hW];exact below_new _ _)
 have HW:=Lib.hid hW
 clear hW hf hg hd
 go_enter Tryz.func29,Tryz.ntmps29
 go_wp2_with fail
 rw[HW.out]
 refine (HM.out W HB0.out).mono ?_;rintro e w1 ⟨hb,hcase⟩
 have HB1:=Lib.hid (below_step HB0.out hb)
 clear hb
 cases g with
 | true =>
  rw[if_pos rfl] at hcase
  subst hcase
  go_wp2_with fail
  go_ret
  exact ⟨rfl,HB1.out⟩
 | false =>
  rw[if_neg (by simp)] at hcase
  obtain ⟨v,rfl,hec⟩:=hcase
  obtain ⟨T',y,rfl⟩:=hec.iface
  clear hec
  go_wp2_with fail
  go_ret
  exact ⟨rfl,HB1.out⟩
open Go.RowKit
theorem nats_tab13 (w:World) (a0 a1 a2 a3 a4 a5 a6 a7 a8 a9 a10 a11 a12:Nat):Nats .i64 (w.alloc (.cells #[.int .i64 (a0:Int),.int .i64 (a1:Int),.int .i64 (a2:Int),.int .i64 (a3:Int),.int .i64 (a4:Int),.int .i64 (a5:Int),.int .i64 (a6:Int),.int .i64 (a7:Int),.int .i64 (a8:Int),.int .i64 (a9:Int),.int .i64 (a10:Int),.int .i64 (a11:Int),.int .i64 (a12:Int)] 3)) (some ⟨w.heap.size,0,none⟩) [a0,a1,a2,a3,a4,a5,a6,a7,a8,a9,a10,a11,a12]:=by
  intro _
  refine ⟨w.heap.size,0,rfl,by simp,fun j hj=>?_⟩
  have:j=0∨j=1∨j=2∨j=3∨j=4∨j=5∨j=6∨j=7∨j=8∨j=9∨j=10∨j=11∨j=12:=by simp at hj;omega
  rcases this with rfl|rfl|rfl|rfl|rfl|rfl|rfl|rfl|rfl|rfl|rfl|rfl|rfl
  · exact row_cell (heap_alloc_new w _) (j:=0) rfl
  · exact row_cell (heap_alloc_new w _) (j:=1) rfl
  · exact row_cell (heap_alloc_new w _) (j:=2) rfl
  · exact row_cell (heap_alloc_new w _) (j:=3) rfl
  · exact row_cell (heap_alloc_new w _) (j:=4) rfl
  · exact row_cell (heap_alloc_new w _) (j:=5) rfl
  · exact row_cell (heap_alloc_new w _) (j:=6) rfl
  · exact row_cell (heap_alloc_new w _) (j:=7) rfl
  · exact row_cell (heap_alloc_new w _) (j:=8) rfl
  · exact row_cell (heap_alloc_new w _) (j:=9) rfl
  · exact row_cell (heap_alloc_new w _) (j:=10) rfl
  · exact row_cell (heap_alloc_new w _) (j:=11) rfl
  · exact row_cell (heap_alloc_new w _) (j:=12) rfl
theorem hi_tab (w:World):Calls Tryz.prog 84 #[] w fun e w'=>∃ ao,e = .returned (.slice ao 13 13)∧Hid (Nats .i64 w' ao [17,25,33,41,49,50,57,58,66,74,80,89,97])∧Below w.heap.size w w':=by
  have HN:=Lib.hid (nats_tab13 w 17 25 33 41 49 50 57 58 66 74 80 89 97)
  go_enter Tryz.func84,Tryz.ntmps84
  go_wp2_with fail
  go_ret
  exact ⟨_,rfl,HN,below_new _ _⟩
theorem hi_rtk (r:Rec):hiF.tk r=rtk [17,25,33,41,49,50,57,58,66,74,80,89,97] r:=by
  rw[hiF_tk]
  unfold rtk
  simp only[List.any_cons,List.any_nil,Bool.or_false,Nat.reduceDiv,Nat.reduceMod]
  rw[Bool.eq_iff_iff]
  simp only[decide_eq_true_eq,Bool.or_eq_true]
  constructor
  · rintro (⟨h1,h2⟩|⟨h1,h2⟩|⟨h1,h2⟩|⟨h1,h2⟩|⟨h1,h2|h2⟩|⟨h1,h2|h2⟩|⟨h1,h2⟩|⟨h1,h2⟩|⟨h1,h2⟩|⟨h1,h2⟩|⟨h1,h2⟩)
    all_goals simp[h1,h2]
  · rintro (⟨h1,h2⟩|⟨h1,h2⟩|⟨h1,h2⟩|⟨h1,h2⟩|⟨h1,h2⟩|⟨h1,h2⟩|⟨h1,h2⟩|⟨h1,h2⟩|⟨h1,h2⟩|⟨h1,h2⟩|⟨h1,h2⟩|⟨h1,h2⟩|⟨h1,h2⟩)
    all_goals simp[←h1,←h2]
open Go.RowKit
theorem fixed8_any (num n:Nat) (w:World) (h1:1≤num) (h2:num≤536870911) (_:n<18446744073709551616):Calls Tryz.prog 76 #[.int .i64 (num:Int),.int .u64 (n:Int)] w (RoPost (rF num n).raw w) :=
 (rfixedr_any (num:Int) n w (by omega) (by omega)).mono fun _ _ h=>⟨h.2,_,h.1,Lib.hid (rF_wrec h1 h2 n)⟩
theorem putnum8_any (num n:Nat) (w:World) (h1:1≤num) (h2:num≤536870911) (hn:n<18446744073709551616):Calls Tryz.prog 74 #[.int .i64 (num:Int),.int .u64 (n:Int)] w (RoPost (if n=0 then [] else (rF num n).raw) w):=by
 by_cases h0:n=0
 ·subst h0
  go_enter Tryz.func74,Tryz.ntmps74
  go_wp2_with fail
  go_ret
  exact ⟨Below.refl _ _,_,rfl,Lib.hid rfl⟩
 ·have d1:((n:Int) == 0)=false:=by rw[beq_eq_false_iff_ne];omega
  have HF:=Lib.hid (fixed8_any num n w h1 h2 hn)
  rw[if_neg h0]
  clear h0
  go_enter Tryz.func74,Tryz.ntmps74
  go_wp2_with fail
  refine HF.out.mono ?_;rintro e w1 ⟨hb,R,rfl,hR⟩
  have HB:=Lib.hid hb
  clear hb
  go_wp2_with fail
  go_ret
  exact ⟨HB.out,R,rfl,hR⟩
theorem if18_any (c:Prop) [Decidable c] (b:Bool) (X:ByteArray) (t:List UInt8) (w:World) (hb:b=true↔c) (hX:Hid (X.data.toList=t)):Calls Tryz.prog 75 #[.bool b,.string X] w (RoPost (if c then t else []) w):=by
 cases b with
 | true =>
  rw[if_pos (hb.1 rfl)]
  clear hb
  go_enter Tryz.func75,Tryz.ntmps75
  go_wp2_with fail
  go_ret
  exact ⟨Below.refl _ _,_,rfl,hX⟩
 | false =>
  rw[if_neg (fun h=>by have:=hb.2 h;cases this)]
  clear hb
  go_enter Tryz.func75,Tryz.ntmps75
  go_wp2_with fail
  go_ret
  exact ⟨Below.refl _ _,_,rfl,Lib.hid rfl⟩
theorem puttext8r_any (num:Nat) (X:ByteArray) (t:List UInt8) (w:World) (h1:1≤num) (h2:num≤536870911) (hX:Hid (X.data.toList=t)) (ht:t.length≤1000000):Calls Tryz.prog 142 #[.int .i64 (num:Int),.string X] w (RoPost (if t=[] then [] else (rB num t).raw) w) :=
 (puttext8_any num X t w h2 hX ht).mono fun _ _ h=>⟨h.2,_,h.1,Lib.hid (wbytesP_raw num h1 h2 t)⟩
open Go.RowKit
theorem wvarP_rawx (num:Nat) (h1:1≤num) (h2:num≤536870911) (n:Nat):(wvarP num n).flatten=if n=0 then [] else (rN num n).raw:=by
  unfold wvarP
  split
  · rfl
  · have e:=wrec_raw (num:=num) (ty:=0) h1 h2 (by omega) (vput n)
    have e2:wrec (num:Int) 0 (vput n)=(rN num n).raw:=e
    rw[e2]
    simp
theorem putvar8r_any (num n:Nat) (w:World) (h1:1≤num) (h2:num≤536870911) (hn:n<2 ^ 64):Calls Tryz.prog 79 #[.int .i64 (num:Int),.int .u64 (n:Int)] w (RoPost (if n=0 then [] else (rN num n).raw) w) :=
  (putvar8_any num n w h2 hn).mono fun _ _ h=>⟨h.2,_,h.1,Lib.hid (wvarP_rawx num h1 h2 n)⟩
end Go.Proofs.YtjbingoliffjiaaGreatDoor
