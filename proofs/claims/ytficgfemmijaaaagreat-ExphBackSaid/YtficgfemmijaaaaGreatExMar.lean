/-
  ExTakes, ExMar
-/
import Derived.Test.YtficgfemmijaaaaGreatBukRef
import Derived.Test.YtficgfemmijaaaaGreatFnl
import Derived.Test.YtficgfemmijaaaaGreatExRoom
import Derived.Test.YtficgfemmijaaaaGreatPartK
import Derived.Test.YtficgfemmijaaaaGreatErrNew
set_option maxRecDepth 1000000
set_option maxHeartbeats 16000000
namespace Go.Proofs.YtficgfemmijaaaaGreat
open Go.RowKit
open Lib (hid)
def bkSb:Sub (Bk × List UInt8) where
  rd d t:=bread t d
  out x:=bput x.1 x.2
  may d x:=bmay x.2 d
  fit x:=BkOk x.1
  wt x:=10 * x.1.cs.length+x.2.length
theorem bkSb_ok:bkSb.Ok where
  len:=fun x=>by have:=bput_len x.1 x.2;show (bput x.1 x.2).length≤10 * x.1.cs.length+x.2.length+1000;omega
  back:=fun x d hf hw hd hm=>by
    obtain ⟨x,u⟩:=x;have hw:10 * x.cs.length+u.length≤1000000:=hw;have:=vputs_len10 x.cs;exact bread_put (x:=x) (u:=u) hf (by omega) hm
  less:=fun x d d' hf hw hd hm hle hn=>by
    obtain ⟨x,u⟩:=x;have hw:10 * x.cs.length+u.length≤1000000:=hw;have:=vputs_len10 x.cs;refine bread_put_less (x:=x) (u:=u) hf (by omega) hm hle ?_
    rcases hn with h|h
    · unfold bmay;rw[decide_eq_false (by omega)];rfl
    · exact h
  twice:=fun t x d ht h=>by
    obtain ⟨x,u⟩:=x;have h:bread t d = .ok (x,u):=h;have h1:=bread_may h;have h2:=bread_cs h;have h3:=bread_unk h
    have h0:0≤d:=by
      have h4:=h1;unfold bmay at h4
      rw[Bool.and_eq_true,decide_eq_true_eq] at h4;exact h4.1
    exact ⟨h0,h1,h2.2,by show 10 * x.cs.length+u.length≤_;omega⟩
def bkz (x:Bk × List UInt8):Bool:=decide (x.1.off=0)&&(x.1.cs.isEmpty&&x.2.isEmpty)
theorem bkz_iff (x:Bk × List UInt8):bkz x=true↔x=(⟨0,[]⟩,[]):=by
  obtain ⟨⟨o,cs⟩,u⟩:=x;unfold bkz
  simp only[Bool.and_eq_true,decide_eq_true_eq,List.isEmpty_iff,Prod.mk.injEq,Bk.mk.injEq,and_assoc]
theorem bk_zero:bkSb.fit ((⟨0,[]⟩,[]):Bk × List UInt8):=⟨by show (-2147483648:Int)≤0;omega,by show (0:Int)≤2147483647;omega,fun n hn=>by cases hn⟩
open Go.RowKit
theorem extakes_any (r:Rec)(w:World):Calls Tryz.prog 65 #[.int .i64 r.num,.int .i64 r.ty] w fun e w'=>e = .returned (.bool (exF.tk r))∧w=w':=by
  obtain ⟨num,ty,n,s,raw⟩:=r;have hq:=exF_tk ⟨num,ty,n,s,raw⟩;dsimp only at hq;obtain ⟨q,hqe⟩:∃ q,exF.tk ⟨num,ty,n,s,raw⟩=q:=⟨_,rfl⟩
  rw[hqe] at hq ⊢;clear hqe
  by_cases h2:num=2
  · subst h2
    have hb:Hid (q=((ty:Int) == (1:Int))):=hid (by rw[show ((1:Int))=((1:Nat):Int) from rfl,ibeq,hq];exact decide_eq_decide.2 (by omega));clear hq;go_enter Tryz.func65,Tryz.ntmps65;go_wp2_with fail;go_ret;exact ⟨by rw[hb.out];rfl,rfl⟩
  by_cases h6:num=6
  · subst h6
    have hb:Hid (q=((ty:Int) == (1:Int))):=hid (by rw[show ((1:Int))=((1:Nat):Int) from rfl,ibeq,hq];exact decide_eq_decide.2 (by omega));clear hq;go_enter Tryz.func65,Tryz.ntmps65;go_wp2_with fail;go_ret;exact ⟨by rw[hb.out];rfl,rfl⟩
  by_cases h3:num=3
  · subst h3
    have hb:Hid (q=((ty:Int) == (1:Int))):=hid (by rw[show ((1:Int))=((1:Nat):Int) from rfl,ibeq,hq];exact decide_eq_decide.2 (by omega));clear hq;go_enter Tryz.func65,Tryz.ntmps65;go_wp2_with fail;go_ret;exact ⟨by rw[hb.out];rfl,rfl⟩
  by_cases h4:num=4
  · subst h4
    have hb:Hid (q=((ty:Int) == (2:Int))):=hid (by rw[show ((2:Int))=((2:Nat):Int) from rfl,ibeq,hq];exact decide_eq_decide.2 (by omega));clear hq;go_enter Tryz.func65,Tryz.ntmps65;go_wp2_with fail;go_ret;exact ⟨by rw[hb.out];rfl,rfl⟩
  by_cases h5:num=5
  · subst h5
    have hb:Hid (q=((ty:Int) == (2:Int))):=hid (by rw[show ((2:Int))=((2:Nat):Int) from rfl,ibeq,hq];exact decide_eq_decide.2 (by omega));clear hq;go_enter Tryz.func65,Tryz.ntmps65;go_wp2_with fail;go_ret;exact ⟨by rw[hb.out];rfl,rfl⟩
  by_cases h7:num=7
  · subst h7
    have hb:Hid (q=((ty:Int) == (2:Int))):=hid (by rw[show ((2:Int))=((2:Nat):Int) from rfl,ibeq,hq];exact decide_eq_decide.2 (by omega));clear hq;go_enter Tryz.func65,Tryz.ntmps65;go_wp2_with fail;go_ret;exact ⟨by rw[hb.out];rfl,rfl⟩
  have d2:((num:Int) == (2:Int))=false:=by rw[beq_eq_false_iff_ne];omega
  have d6:((num:Int) == (6:Int))=false:=by rw[beq_eq_false_iff_ne];omega
  have d3:((num:Int) == (3:Int))=false:=by rw[beq_eq_false_iff_ne];omega
  have d4:((num:Int) == (4:Int))=false:=by rw[beq_eq_false_iff_ne];omega
  have d5:((num:Int) == (5:Int))=false:=by rw[beq_eq_false_iff_ne];omega
  have d7:((num:Int) == (7:Int))=false:=by rw[beq_eq_false_iff_ne];omega
  have hb:Hid (q=false):=hid (by rw[hq];exact decide_eq_false (by omega));clear h2 h6 h3 h4 h5 h7 hq;go_enter Tryz.func65,Tryz.ntmps65;go_wp2_with fail;go_ret;exact ⟨by rw[hb.out];rfl,rfl⟩
open Go.RowKit
theorem ex_marshal_if (x:Ex)(hM:Hid (x.1.2.2≠[]→KMar))(cs:List Value)(Q:Nat→Prop)(d:Int)(w:World)(hf:ex_fit x)(hr:exCel.R w Q x cs)(hd:-9223372036854775808≤d∧d≤9223372036854775807) :
  Calls Tryz.prog 35 #[.agg cs.toArray,.int .i64 d] w (MarPost (ex_may d x) (ex_out x) w):=by
 obtain ⟨⟨t,⟨⟨⟨k,n⟩,⟨a,b⟩⟩,l⟩⟩,u⟩:=x;obtain ⟨lo,lc,rfl,hr⟩:=hr;have HR:=hid (KRels.lt _ _ _ hr);have HD:=hid hd;obtain ⟨hnt,hnn,hfl,hw⟩:=hf;have HFK:=hid hw;have HNT:=hid hnt;have HNN:=hid hnn;have HFL:=hid hfl;obtain ⟨Xa,hXa⟩:∃ U:ByteArray,(⟨a.toArray⟩:ByteArray)=U:=⟨_,rfl⟩
 obtain ⟨Xb,hXb⟩:∃ U:ByteArray,(⟨b.toArray⟩:ByteArray)=U:=⟨_,rfl⟩
 obtain ⟨Xu,hXu⟩:∃ U:ByteArray,(⟨u.toArray⟩:ByteArray)=U:=⟨_,rfl⟩
 have HXa:Hid (Xa.data.toList=a):=hid (by rw[←hXa]);have HXb:Hid (Xb.data.toList=b):=hid (by rw[←hXb]);have HU:=hid hXu;dsimp only[strV];rw[hXa,hXb,hXu];obtain ⟨mx,hmx⟩:∃ m,ex_may d ((t,(((k,n),(a,b)),l)),u)=m:=⟨_,rfl⟩
 obtain ⟨ox,hox⟩:∃ m,ex_out ((t,(((k,n),(a,b)),l)),u)=m:=⟨_,rfl⟩
 rw[hmx,hox];have HMX:=hid hmx;have HOX:=hid hox;obtain ⟨W0,hW0⟩:∃ W,w.alloc (.cells #[.slice lo l.length lc,.int .u64 t,.int .i64 k,.int .u64 n,.string Xa,.string Xb,.string Xu] 54)=W:=⟨_,rfl⟩
 obtain ⟨bx,hbx⟩:∃ bx,w.heap.size=bx:=⟨_,rfl⟩
 have HB0:Hid (Below w.heap.size w W0):=hid (by rw[←hW0];exact below_new _ _);have HX0:Hid (W0.heap[bx]? = some (.cells #[.slice lo l.length lc,.int .u64 t,.int .i64 k,.int .u64 n,.string Xa,.string Xb,.string Xu] 54 (0,0))):=hid (by rw[←hW0,←hbx];exact heap_alloc_new _ _);have HW0:=hid hW0;have HBX:=hid hbx;have HET:=hid (enters_of Tryz.func65 (by kernel_rfl) rfl);clear hW0 hbx hr hd hmx hox hXa hXb hXu hnt hnn hfl hw;go_enter Tryz.func35,Tryz.ntmps35;go_wp2_with fail;rw[HW0.out,HBX.out];refine (wmnew_any d W0).mono ?_;rintro e wz ⟨rfl,hb1,P1,hw1,hp1⟩;obtain ⟨p,hp⟩:∃ p,W0.heap.size=p:=⟨_,rfl⟩
 have hpp:bx<p:=by rw[←hp];exact row_lt HX0.out
 rw[hp] at hw1 hb1 hp1 ⊢;have HB1:Hid (Below p W0 wz):=hid hb1;have HP1:Hid (∀ k,P1 k→p≤k):=hid hp1;have HPE:=hid hp;have HS:=hid (WSx.start (wh_new hw1) (Below.refl _ _) ((hb1.block _ hpp).trans HX0.out) (fun h=>by have:=hp1 bx h;omega));have HR1:Hid (KRels wz (fun k=>Q k∧k<w.heap.size) l lo 0):=hid (KRels.upd (Upd.of_new (S:=fun _=>False) (HB0.out.trans (hb1.mono (by have:=HB0.out.size;omega)))) (fun _ _ h=>h) (fun _ h=>h) l lo 0 HR.out);have HQ1:Hid (∀ k,Q k∧k<w.heap.size→k<p∧k<wz.heap.size):=hid (fun k hk=>by have:=HB0.out.size;have:=hb1.size;omega);clear hb1 hw1 hp1 hp;have xc:wz.cell? ⟨bx,2,none⟩=some (.int .i64 k):=HS.out.cell rfl;have xn:wz.cell? ⟨bx,3,none⟩=some (.int .u64 n):=HS.out.cell rfl;go_wp2_with fail;refine (wv_kind k n (hid HS.out.so.wr)).mono ?_;intro e wz hpost;obtain ⟨qs2,P2,rfl,hs⟩:=HS.out.next hpost;have HSN:=hid hs;clear hpost hs HS xc xn;have HS:=HSN;clear HSN;have xc:wz.cell? ⟨bx,1,none⟩=some (.int .u64 t):=HS.out.cell rfl;go_wp2_with fail;refine (wv_num 2 t HS.out.so.wr HNT.out (by omega) (by omega) (by have:=HS.out.so.len;have:=HFK.out;simp only[List.nil_append];omega) (by have:=HS.out.so.size;have:=HFK.out;simp only[List.nil_append];omega)).mono ?_;intro e wz hpost;obtain ⟨qs2,P2,rfl,hs⟩:=HS.out.next hpost;have HSN:=hid hs;clear hpost hs HS xc;have HS:=HSN;clear HSN
 have hkk:((k == 1)=true∧(k == 2)=false)∨((k == 1)=false∧(k == 2)=true)∨((k == 1)=false∧(k == 2)=false):=by
   by_cases h1:k=1
   · subst h1;left;exact ⟨rfl,rfl⟩
   · by_cases h2:k=2
     · subst h2;right;left;exact ⟨rfl,rfl⟩
     · right;right;exact ⟨beq_eq_false_iff_ne.2 h1,beq_eq_false_iff_ne.2 h2⟩
 rcases hkk with ⟨c1,c2⟩|⟨c1,c2⟩|⟨c1,c2⟩
 all_goals
  have xc:wz.cell? ⟨bx,2,none⟩=some (.int .i64 k):=HS.out.cell rfl;have xn:wz.cell? ⟨bx,3,none⟩=some (.int .u64 n):=HS.out.cell rfl;have xd:wz.cell? ⟨bx,4,none⟩=some (.string Xa):=HS.out.cell rfl;go_wp2_with fail
  first
  | (go_at_call 58
     refine (wfixed_any 3 n _ (by omega) (by omega) HNN.out).mono ?_;rintro e wz ⟨rfl,hbz⟩;rw[show wrec 3 1 (eight 8 n)=(rF 3 n).raw from rF_wrec (num:=3) (by omega) (by omega) n];have HSN:=hid (HS.out.below hbz);clear hbz HS xc xn xd;have HS:=HSN;clear HSN;go_wp2_with fail;refine ((wv_put (rF 3 n).raw HS.out.so.wr (by have:=HS.out.so.len;have:=HFK.out;simp only[List.nil_append];omega) (by have:=rF_len20 3 n;have:=HS.out.so.size;have:=HFK.out;simp only[List.nil_append];omega)).mono (fun _ _ h=>wv_if (k=1) (eq_of_beq c1) (h.le (Nat.le_refl _) (rF_len20 3 n)))).mono ?_;intro e wz hpost;obtain ⟨qs2,P2,rfl,hs⟩:=HS.out.next hpost;have HSN:=hid hs;clear hpost hs HS;have HS:=HSN;clear HSN)
  | (have HSN:=hid (HS.out.skip (k=1) (fun h=>by rw[h] at c1;simp at c1) (rF 3 n).raw 20)
     clear HS xc xn xd;have HS:=HSN;clear HSN)
  have xc:wz.cell? ⟨bx,4,none⟩=some (.string Xa):=HS.out.cell rfl
  try go_wp2_with fail
  refine (wv_bytes 4 Xa a HS.out.so.wr HXa.out (by omega) (by omega) (by have:=HFK.out;omega) (by have:=HS.out.so.len;have:=HFK.out;simp only[List.nil_append];omega) (by have:=HS.out.so.size;have:=HFK.out;simp only[List.nil_append];omega)).mono ?_;intro e wz hpost;obtain ⟨qs2,P2,rfl,hs⟩:=HS.out.next hpost;have HSN:=hid hs;clear hpost hs HS xc;have HS:=HSN;clear HSN;have xc:wz.cell? ⟨bx,5,none⟩=some (.string Xb):=HS.out.cell rfl;go_wp2_with fail;refine (wv_bytes 5 Xb b HS.out.so.wr HXb.out (by omega) (by omega) (by have:=HFK.out;omega) (by have:=HS.out.so.len;have:=HFK.out;simp only[List.nil_append];omega) (by have:=HS.out.so.size;have:=HFK.out;simp only[List.nil_append];omega)).mono ?_;intro e wz hpost;obtain ⟨qs2,P2,rfl,hs⟩:=HS.out.next hpost;have HSN:=hid hs;clear hpost hs HS xc;have HS:=HSN;clear HSN;have xc:wz.cell? ⟨bx,2,none⟩=some (.int .i64 k):=HS.out.cell rfl;have xn:wz.cell? ⟨bx,3,none⟩=some (.int .u64 n):=HS.out.cell rfl;have xd:wz.cell? ⟨bx,0,none⟩=some (.slice lo l.length lc):=HS.out.cell rfl;go_wp2_with fail
  first
  | (go_at_call 58
     refine (wfixed_any 6 n _ (by omega) (by omega) HNN.out).mono ?_;rintro e wz ⟨rfl,hbz⟩;rw[show wrec 6 1 (eight 8 n)=(rF 6 n).raw from rF_wrec (num:=6) (by omega) (by omega) n];have HSN:=hid (HS.out.below hbz);clear hbz HS xc xn xd;have HS:=HSN;clear HSN;go_wp2_with fail;refine ((wv_put (rF 6 n).raw HS.out.so.wr (by have:=HS.out.so.len;have:=HFK.out;simp only[List.nil_append];omega) (by have:=rF_len20 6 n;have:=HS.out.so.size;have:=HFK.out;simp only[List.nil_append];omega)).mono (fun _ _ h=>wv_if (k=2) (eq_of_beq c2) (h.le (Nat.le_refl _) (rF_len20 6 n)))).mono ?_;intro e wz hpost;obtain ⟨qs2,P2,rfl,hs⟩:=HS.out.next hpost;have HSN:=hid hs;clear hpost hs HS;have HS:=HSN;clear HSN)
  | (have HSN:=hid (HS.out.skip (k=2) (fun h=>by rw[h] at c2;simp at c2) (rF 6 n).raw 20)
     clear HS xc xn xd;have HS:=HSN;clear HSN)
  have xc:wz.cell? ⟨bx,0,none⟩=some (.slice lo l.length lc):=HS.out.cell rfl
  try go_wp2_with fail
  refine (listk_if l hM p d _ [] _ _ (fun k=>Q k∧k<w.heap.size) wz 7 lo lc HFL.out (KRels.upd HS.out.so.upd (fun k hk h=>by have:=HP1.out k h;have:=HQ1.out k hk;omega) (fun _ h=>h) l lo 0 HR1.out) (fun k hk h=>by have:=HQ1.out k hk;rcases HS.out.so.new k h with h|h;(have:=HP1.out k h;omega);omega) HS.out.so.wr (by by_cases h:d<0;(left;simp[h]);(right;omega)) HD.out (by omega) ⟨by have:=HS.out.so.len;have:=HFK.out;simp only[List.nil_append];omega,by have:=HS.out.so.size;have:=HFK.out;simp only[List.nil_append];omega,by have:=HFK.out;omega⟩).mono ?_;intro e wz hpost;obtain ⟨qs2,P2,rfl,hs⟩:=HS.out.next hpost;have HSN:=hid hs;clear hpost hs HS xc;have HS:=HSN;clear HSN;have xc:wz.cell? ⟨bx,6,none⟩=some (.string Xu):=HS.out.cell rfl;go_wp2_with fail;refine (wv_rest Xu u exF.tk 65 HS.out.so.wr HU.out.symm (by have:=HFK.out;omega) (by have:=HS.out.so.len;have:=HFK.out;simp only[List.nil_append];omega) (by have:=HS.out.so.size;have:=HFK.out;simp only[List.nil_append];omega) HET.out (fun r w=>extakes_any r w)).mono ?_;intro e wz hpost;obtain ⟨qs2,P2,rfl,hs⟩:=HS.out.next hpost;have HSN:=hid hs;clear hpost hs HS xc;have HS:=HSN;clear HSN;go_wp2_with fail;obtain ⟨vo,P0,hwa,_⟩:=HS.out.so.wr;have HWA:=hid hwa;have HLB:=hid (And.intro HS.out.so.len HS.out.so.size);clear hwa;refine (wend_any p d vo _ _ P0 _ HWA (by have:=HLB.out.1;simp only[List.nil_append];(have:=HFK.out;omega)) (by have:=HLB.out.2;simp only[List.nil_append];(have:=HFK.out;omega))).mono ?_;rintro e w9 ⟨hb9,hcase⟩;have HB9:=hid (mar_below HB0.out HPE.out HB1.out HS.out.so.upd HP1.out hb9);have HBY:=hid HS.out.so.bytes;obtain ⟨bb,hbb⟩:∃ bb,(decide (d<0)||!((((((((true&&decide (k=0∧n=0∨k=1∨k=2))&&true)&&true)&&true)&&true)&&true)&&kmays l d)&&munkOk exF.tk u d))=bb:=⟨_,rfl⟩
  rw[hbb] at hcase HBY
  have HBB:Hid (mx=!bb):=hid (by
    rw[←HMX.out,←hbb]
    show (decide (0≤d)&&((decide (k=0∧n=0∨k=1∨k=2)&&kmays l d)&&munkOk exF.tk u d))=_
    by_cases h:d<0
    · rw[decide_eq_true h,decide_eq_false (by omega:¬0≤d)];rfl
    · rw[decide_eq_false h,decide_eq_true (by omega:0≤d)]
      simp only[Bool.true_and,Bool.and_true,Bool.false_or,Bool.not_not,Bool.and_assoc])
  clear hb9 hbb
  cases bb with
  | true =>
    rw[if_pos rfl] at hcase;obtain ⟨v,rfl,hec⟩:=hcase;obtain ⟨T',y,rfl⟩:=hec.iface;have HEC:=hid hec;clear hec;go_wp2_with fail
    go_ret2
    refine ⟨HB9.out,?_⟩;rw[HBB.out,if_neg (by simp)];exact ⟨_,rfl,HEC.out⟩
  | false =>
    rw[if_neg (by simp)] at hcase;subst hcase;have hq9:=HBY.out rfl;rw[List.nil_append,hq9]
    have hoe:([]++[]++(if t=0 then [] else (rF 2 t).raw)++(if k=1 then (rF 3 n).raw else [])++(if a=[] then [] else (rB 4 a).raw)++(if b=[] then [] else (rB 5 b).raw)++(if k=2 then (rF 6 n).raw else [])++kouts 7 l++u:List UInt8)=ox:=by
      rw[←HOX.out]
      show _=(if t=0 then [] else (rF 2 t).raw)++(if k=1 then (rF 3 n).raw else [])++(if a=[] then [] else (rB 4 a).raw)++(if b=[] then [] else (rB 5 b).raw)++(if k=2 then (rF 6 n).raw else [])++kouts 7 l++u
      simp only[List.nil_append]
    rw[hoe];clear hoe hq9;go_wp2_with fail
    go_ret2
    refine ⟨HB9.out,?_⟩;rw[HBB.out,if_pos (show (!false)=true from rfl)]
    rfl
open Go.RowKit
end Go.Proofs.YtficgfemmijaaaaGreat
