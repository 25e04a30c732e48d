/-
  hyglaw25.MergeFits.
-/
import Derived.Test.YtcblkndiclkacaaDoorMgSides
import Derived.Test.YtcblkndiclkacaaDoorFrV
import Derived.Test.YtcblkndiclkacaaDoorMgFirst
import Derived.Test.YtcblkndiclkacaaDoorXpSameR
set_option maxRecDepth 1000000
set_option maxHeartbeats 16000000
namespace Go.Proofs.YtcblkndiclkacaaDoor
open Go.RowKit
theorem lwt_ksx:∀ (es:List Ex) (n:Nat),lwt exSb es≤n→∀ x∈es,ksw x.1.2.2≤n
 | [],_,_,x,h=>by cases h
 | y::es,n,h,x,hx=>by
  have hc:lwt exSb (y::es)=exSb.wt y+lwt exSb es:=by unfold lwt;rfl
  rw[hc] at h
  rcases List.mem_cons.1 hx with rfl|hx
  ·obtain ⟨⟨t,⟨⟨⟨k,m⟩,⟨a,b⟩⟩,l⟩⟩,u⟩:=x
   have h2:exSb.wt ((t,(((k,m),(a,b)),l)),u)=60+(a.length+b.length+ksw l+u.length):=rfl
   rw[h2] at h
   show ksw l≤n
   omega
  ·exact lwt_ksx es n (by omega) x hx
theorem crels_one {α:Type} {C:Cel α} {w:World} {g:Nat} {T:TypeId} {fr:Nat × Nat} {x:α} {cx:List Value} (hr:w.heap[g]? = some (.cells cx.toArray T fr)) (hx:C.R w (fun _=>True) x cx):CRels C w (fun _=>True) [x] (some ⟨g,0,none⟩):=fun j hj=>by
 have hc:∀ i (h:i<cx.length),w.cell? ⟨g,i,none⟩=some cx[i]:=fun i h=>row_cell hr (j:=i) (by simp[List.getElem?_eq_getElem h])
 match j,hj with
 | 0,_ =>
  refine ⟨g,0,cx,rfl,trivial,row_lt hr,fun i hi=>?_,hx⟩
  rw[show 0+C.size * 0+i=i by omega]
  exact hc i hi
theorem alike_self {α:Type} (x:α):alike x x=true:=by unfold alike;simp
theorem fits_any (l:List KV) (a t k:Nat) (bp:Bool) (vp:Nat) (bm:Bool) (vm:Nat) (bg:Bool) (vg:Nat) (sc:Int) (zc:Nat) (gp:Bool) (po:Int) (pc:List Nat) (pu:List UInt8) (gn:Bool) (no:Int) (nc:List Nat) (nu:List UInt8) (es:List Ex) (f th:Nat) (u:List UInt8) (lo:Option Addr) (lc:Nat) (pco:Option Addr) (pcc:Nat) (nco:Option Addr) (ncc:Nat) (eo:Option Addr) (ec:Nat) (most less:Int) (ew:Addr) (P:Nat→Prop) (w:World) (hg:Hid (Glob w)) (HE0:Hid (WideAt ew w)) (hmo : -9223372036854775808≤most∧most≤9223372036854775807) (hA:Hid (xp_arg ((l,(a,(t,(k,((bp,vp),(sc,(zc,((gp,⟨po,pc⟩,pu),((gn,⟨no,nc⟩,nu),(f,(es,((bm,vm),((bg,vg),th))))))))))))),u))) (hR:Hid (xpCel.R w P ((l,(a,(t,(k,((bp,vp),(sc,(zc,((gp,⟨po,pc⟩,pu),((gn,⟨no,nc⟩,nu),(f,(es,((bm,vm),((bg,vg),th))))))))))))),u) [.slice lo l.length lc,.int .u64 (a:Int),.int .u64 (t:Int),.int .u64 (k:Int),.bool bp,.int .u64 (vp:Int),.bool bm,.int .u64 (vm:Int),.bool bg,.int .u64 (vg:Int),.int .i32 sc,.int .u64 (zc:Int),.bool gp,.int .i32 po,.slice pco pc.length pcc,strV pu,.bool gn,.int .i32 no,.slice nco nc.length ncc,strV nu,.slice eo es.length ec,.int .u32 (f:Int),.int .u64 (th:Int),strV u])) :
  Calls Tryd.prog 7 #[.agg #[.slice lo l.length lc,.int .u64 (a:Int),.int .u64 (t:Int),.int .u64 (k:Int),.bool bp,.int .u64 (vp:Int),.bool bm,.int .u64 (vm:Int),.bool bg,.int .u64 (vg:Int),.int .i32 sc,.int .u64 (zc:Int),.bool gp,.int .i32 po,.slice pco pc.length pcc,strV pu,.bool gn,.int .i32 no,.slice nco nc.length ncc,strV nu,.slice eo es.length ec,.int .u32 (f:Int),.int .u64 (th:Int),strV u],.int .i64 most,.int .i64 less] w fun E w'=>E = .returned (.bool true)∧Below w.heap.size w w':=by
 obtain ⟨b1,HN1⟩:∃ x,Hid (w.heap.size=x):=⟨_,Lib.hid rfl⟩
 obtain ⟨W,HW⟩:∃ X,Hid (w.alloc (.cells #[.slice lo l.length lc,.int .u64 (a:Int),.int .u64 (t:Int),.int .u64 (k:Int),.bool bp,.int .u64 (vp:Int),.bool bm,.int .u64 (vm:Int),.bool bg,.int .u64 (vg:Int),.int .i32 sc,.int .u64 (zc:Int),.bool gp,.int .i32 po,.slice pco pc.length pcc,strV pu,.bool gn,.int .i32 no,.slice nco nc.length ncc,strV nu,.slice eo es.length ec,.int .u32 (f:Int),.int .u64 (th:Int),strV u] 46)=X):=⟨_,Lib.hid rfl⟩
 have HB:Hid (Below w.heap.size w W):=Lib.hid (by rw[←HW.out];exact below_new _ _)
 have Rb1:Hid (W.heap[b1]? = some (.cells #[.slice lo l.length lc,.int .u64 (a:Int),.int .u64 (t:Int),.int .u64 (k:Int),.bool bp,.int .u64 (vp:Int),.bool bm,.int .u64 (vm:Int),.bool bg,.int .u64 (vg:Int),.int .i32 sc,.int .u64 (zc:Int),.bool gp,.int .i32 po,.slice pco pc.length pcc,strV pu,.bool gn,.int .i32 no,.slice nco nc.length ncc,strV nu,.slice eo es.length ec,.int .u32 (f:Int),.int .u64 (th:Int),strV u] 46 (0,0))):=Lib.hid (by rw[←HW.out,←HN1.out];exact heap_alloc_new w _)
 have HGE:Hid (w.heap.size≤b1):=Lib.hid (by have:=HN1.out;omega)
 have HG:=Lib.hid (hg.out.below HB.out)
 have HEW:=Lib.hid (HE0.out.below HB.out)
 go_enter Tryd.func7,Tryd.ntmps7
 go_upto_region 1 with fail
 rw[HW.out,HN1.out]
 go_wp2_with fail
 refine (first25 W HG).mono ?_
 rintro E v1 ⟨rfl,hb⟩
 replace HB:=Lib.hid (below_step HB.out hb)
 replace Rb1:=Lib.hid ((hb.block _ (row_lt Rb1.out)).trans Rb1.out)
 replace HG:=Lib.hid (hg.out.below HB.out)
 replace HEW:=Lib.hid (HE0.out.below HB.out)
 have hbk:=Lib.hid hb
 clear hb
 go_upto_region 3 with fail
 refine wp_region_lit ?_
 refine wpList_load_mid rfl 46 (.tmp 3) rfl b1 0 rfl [.slice lo l.length lc,.int .u64 (a:Int),.int .u64 (t:Int),.int .u64 (k:Int),.bool bp,.int .u64 (vp:Int),.bool bm,.int .u64 (vm:Int),.bool bg,.int .u64 (vg:Int),.int .i32 sc,.int .u64 (zc:Int),.bool gp,.int .i32 po,.slice pco pc.length pcc,strV pu,.bool gn,.int .i32 no,.slice nco nc.length ncc,strV nu,.slice eo es.length ec,.int .u32 (f:Int),.int .u64 (th:Int),strV u] _ (range_rowf Rb1.out) Tryd.underlying46 rfl (by kernel_rfl) ?_
 refine wpList_plain rfl (fun K hK=>?_);go_simp;refine hK _ _ ?_;clear hK K
 obtain ⟨b3,HN3⟩:∃ x,Hid (v1.heap.size=x):=⟨_,Lib.hid rfl⟩
 obtain ⟨v2,HW2⟩:∃ X,Hid (v1.alloc (.cells #[.slice lo l.length lc,.int .u64 (a:Int),.int .u64 (t:Int),.int .u64 (k:Int),.bool bp,.int .u64 (vp:Int),.bool bm,.int .u64 (vm:Int),.bool bg,.int .u64 (vg:Int),.int .i32 sc,.int .u64 (zc:Int),.bool gp,.int .i32 po,.slice pco pc.length pcc,strV pu,.bool gn,.int .i32 no,.slice nco nc.length ncc,strV nu,.slice eo es.length ec,.int .u32 (f:Int),.int .u64 (th:Int),strV u] 46)=X):=⟨_,Lib.hid rfl⟩
 rw[HW2.out,HN3.out]
 have hb:Below v1.heap.size v1 v2:=by rw[←HW2.out];exact below_new _ _
 have hr:v2.heap[b3]? = some (.cells #[.slice lo l.length lc,.int .u64 (a:Int),.int .u64 (t:Int),.int .u64 (k:Int),.bool bp,.int .u64 (vp:Int),.bool bm,.int .u64 (vm:Int),.bool bg,.int .u64 (vg:Int),.int .i32 sc,.int .u64 (zc:Int),.bool gp,.int .i32 po,.slice pco pc.length pcc,strV pu,.bool gn,.int .i32 no,.slice nco nc.length ncc,strV nu,.slice eo es.length ec,.int .u32 (f:Int),.int .u64 (th:Int),strV u] 46 (0,0)):=by rw[←HW2.out,←HN3.out];exact heap_alloc_new v1 _
 replace HB:=Lib.hid (below_step HB.out hb)
 replace Rb1:=Lib.hid ((hb.block _ (row_lt Rb1.out)).trans Rb1.out)
 replace HG:=Lib.hid (hg.out.below HB.out)
 replace HEW:=Lib.hid (HE0.out.below HB.out)
 have HR3:=Lib.hid hr
 clear hb hr
 have HCR:Hid (CRels xpCel v2 (fun _=>True) [((l,(a,(t,(k,((bp,vp),(sc,(zc,((gp,⟨po,pc⟩,pu),((gn,⟨no,nc⟩,nu),(f,(es,((bm,vm),((bg,vg),th))))))))))))),u)] (some ⟨b3,0,none⟩)):=Lib.hid (crels_one (cx:=[.slice lo l.length lc,.int .u64 (a:Int),.int .u64 (t:Int),.int .u64 (k:Int),.bool bp,.int .u64 (vp:Int),.bool bm,.int .u64 (vm:Int),.bool bg,.int .u64 (vg:Int),.int .i32 sc,.int .u64 (zc:Int),.bool gp,.int .i32 po,.slice pco pc.length pcc,strV pu,.bool gn,.int .i32 no,.slice nco nc.length ncc,strV nu,.slice eo es.length ec,.int .u32 (f:Int),.int .u64 (th:Int),strV u]) HR3.out (xpCel.upd (Upd.of_new (S:=fun _=>False) HB.out) (fun _ _ h=>h) (fun _ _=>trivial) hR.out))
 refine wpList_plain rfl (fun K hK=>?_);go_simp
 refine (few_any [((l,(a,(t,(k,((bp,vp),(sc,(zc,((gp,⟨po,pc⟩,pu),((gn,⟨no,nc⟩,nu),(f,(es,((bm,vm),((bg,vg),th))))))))))))),u)] (some ⟨b3,0,none⟩) 1 (fun _=>True) v2 (by simp) HCR (Lib.hid (fun x hx=>by simp at hx;subst hx;exact hA.out))).mono ?_
 rintro E v3 ⟨hb,r,rfl,hfew⟩
 replace HB:=Lib.hid (below_step HB.out hb)
 replace Rb1:=Lib.hid ((hb.block _ (row_lt Rb1.out)).trans Rb1.out)
 replace HG:=Lib.hid (hg.out.below HB.out)
 replace HEW:=Lib.hid (HE0.out.below HB.out)
 clear hb HR3 HCR
 go_simp
 refine hK _ _ ?_;clear hK K
 cases r with
 | false =>
  go_wp2_with fail
  refine (first25 v3 HG).mono ?_
  rintro E v4 ⟨rfl,hb⟩
  replace HB:=Lib.hid (below_step HB.out hb)
  replace Rb1:=Lib.hid ((hb.block _ (row_lt Rb1.out)).trans Rb1.out)
  replace HG:=Lib.hid (hg.out.below HB.out)
  replace HEW:=Lib.hid (HE0.out.below HB.out)
  have hbk:=Lib.hid hb
  clear hb
  go_wp2_with fail
  go_ret
  exact ⟨rfl,HB.out⟩
 | true =>
  have HF:=Lib.hid (xp_wt_rw (hfew rfl ((l,(a,(t,(k,((bp,vp),(sc,(zc,((gp,⟨po,pc⟩,pu),((gn,⟨no,nc⟩,nu),(f,(es,((bm,vm),((bg,vg),th))))))))))))),u) (by simp)))
  clear hfew
  by_cases hls:less<0
  ·
   have dls:decide (less<0)=true:=decide_eq_true hls
   clear hls
   go_wp2_with fail
   refine (first25 v3 HG).mono ?_
   rintro E v4 ⟨rfl,hb⟩
   replace HB:=Lib.hid (below_step HB.out hb)
   replace Rb1:=Lib.hid ((hb.block _ (row_lt Rb1.out)).trans Rb1.out)
   replace HG:=Lib.hid (hg.out.below HB.out)
   replace HEW:=Lib.hid (HE0.out.below HB.out)
   have hbk:=Lib.hid hb
   clear hb
   go_wp2_with fail
   go_ret
   exact ⟨rfl,HB.out⟩
  ·
   have dls:decide (less<0)=false:=decide_eq_false hls
   have HLS:=Lib.hid hls
   clear hls
   have HWT:Hid (ksw l≤16000∧pc.length≤1600∧nc.length≤1600∧lwt exSb es≤16000∧es.length≤16000):=Lib.hid (by
    have h:100+(ksw l+10 * pc.length+pu.length+10 * nc.length+nu.length+lwt exSb es+u.length)≤16000:=HF.out
    have h3:=lwt_len (S:=exSb) (k:=1) (fun x=>by obtain ⟨⟨t,⟨⟨⟨k,m⟩,⟨a,b⟩⟩,l⟩⟩,u⟩:=x;show 1≤60+_;omega) es
    omega)
   have HES:Hid (∀ x∈es,ksw x.1.2.2≤1000000):=Lib.hid (lwt_ksx es 1000000 (by have:=HWT.out;omega))
   have HARG:=hA
   obtain ⟨qfl,qll,qzl,qa,qt,qk,qvp,qsc,qzc,qpb,qpl,qpu,qnb,qnl,qnu,qf,qes,qel,qvm,qvg,qth,qu⟩:=hA.out
   have HOK:Hid (∀ sa,sa≤31→(⟨po,pc,sa⟩:Pt).Ok∧(⟨no,nc,sa⟩:Pt).Ok):=Lib.hid (fun sa hs=>⟨⟨qpb.lo,qpb.hi,by have:=HWT.out;show pc.length≤_;omega,hs,qpb.each⟩,⟨qnb.lo,qnb.hi,by have:=HWT.out;show nc.length≤_;omega,hs,qnb.each⟩⟩)
   obtain ⟨lo9,lc9,pco9,pcc9,nco9,ncc9,eo9,ec9,hq,hk,hp,hn,he⟩:=hR.out
   simp only[List.cons.injEq,Value.slice.injEq,and_true,true_and] at hq
   obtain ⟨⟨rfl,rfl⟩,⟨rfl,rfl⟩,⟨rfl,rfl⟩,rfl,rfl⟩:=hq
   have HK:=Lib.hid hk
   have HP:=Lib.hid hp
   have HN:=Lib.hid hn
   have HEX:=Lib.hid he
   clear hk hp hn he
   go_upto_region 5 with fail
   refine wp_region_lit ?_
   refine wpList_load_mid rfl 46 (.tmp 3) rfl b1 0 rfl [.slice lo l.length lc,.int .u64 (a:Int),.int .u64 (t:Int),.int .u64 (k:Int),.bool bp,.int .u64 (vp:Int),.bool bm,.int .u64 (vm:Int),.bool bg,.int .u64 (vg:Int),.int .i32 sc,.int .u64 (zc:Int),.bool gp,.int .i32 po,.slice pco pc.length pcc,strV pu,.bool gn,.int .i32 no,.slice nco nc.length ncc,strV nu,.slice eo es.length ec,.int .u32 (f:Int),.int .u64 (th:Int),strV u] _ (range_rowf Rb1.out) Tryd.underlying46 rfl (by kernel_rfl) ?_
   refine wpList_plain rfl (fun K hK=>?_);go_simp;refine hK _ _ ?_;clear hK K
   refine wpList_plain rfl (fun K hK=>?_);go_simp
   refine (fit_any l a t k bp vp bm vm bg vg sc zc gp po pc ⟨pu.toArray⟩ gn no nc ⟨nu.toArray⟩ es f th u lo lc pco pcc nco ncc eo ec most ew P v3 (by have:=HWT.out;omega) (by have:=HWT.out;omega) HES (Lib.hid (HK.out.below HB.out)) (Lib.hid (CRels.upd (S:=fun _=>False) (Upd.of_new HB.out) (fun _ _ h=>h) (fun _ h=>h) HP.out)) (Lib.hid (CRels.upd (S:=fun _=>False) (Upd.of_new HB.out) (fun _ _ h=>h) (fun _ h=>h) HN.out)) (Lib.hid (CRels.upd (S:=fun _=>False) (Upd.of_new HB.out) (fun _ _ h=>h) (fun _ h=>h) HEX.out)) HEW qsc HOK).mono ?_
   rintro E v4 ⟨hb,cs,v,rfl,hcase⟩
   replace HB:=Lib.hid (below_step HB.out hb)
   replace Rb1:=Lib.hid ((hb.block _ (row_lt Rb1.out)).trans Rb1.out)
   replace HG:=Lib.hid (hg.out.below HB.out)
   replace HEW:=Lib.hid (HE0.out.below HB.out)
   rcases hcase with ⟨hno,hec,⟨T,y,rfl⟩,rfl⟩|⟨rfl,j,o1,C1,o2,C2,hat,ha1,ha2,hxr⟩
   ·
    have HV:=Lib.hid hec
    clear hb hno hec
    go_simp
    refine hK _ _ ?_;clear hK K
    iterate 3 (refine wpList_plain rfl (fun K hK=>?_);go_simp;refine hK _ _ ?_;clear hK K)
    refine wpList_plain rfl (fun K hK=>?_);go_simp;refine hK _ _ ?_;clear hK K
    obtain ⟨b5,HN5⟩:∃ x,Hid (v4.heap.size=x):=⟨_,Lib.hid rfl⟩
    obtain ⟨v5,HW5⟩:∃ X,Hid (v4.alloc (.cells #[.slice none 0 0,.int .u64 0,.int .u64 0,.int .u64 0,.bool false,.int .u64 0,.bool false,.int .u64 0,.bool false,.int .u64 0,.int .i32 0,.int .u64 0,.bool false,.int .i32 0,.slice none 0 0,.string ⟨#[]⟩,.bool false,.int .i32 0,.slice none 0 0,.string ⟨#[]⟩,.slice none 0 0,.int .u32 0,.int .u64 0,.string ⟨#[]⟩] 46)=X):=⟨_,Lib.hid rfl⟩
    rw[HW5.out,HN5.out]
    have hb:Below v4.heap.size v4 v5:=by rw[←HW5.out];exact below_new _ _
    have hr:v5.heap[b5]? = some (.cells #[.slice none 0 0,.int .u64 0,.int .u64 0,.int .u64 0,.bool false,.int .u64 0,.bool false,.int .u64 0,.bool false,.int .u64 0,.int .i32 0,.int .u64 0,.bool false,.int .i32 0,.slice none 0 0,.string ⟨#[]⟩,.bool false,.int .i32 0,.slice none 0 0,.string ⟨#[]⟩,.slice none 0 0,.int .u32 0,.int .u64 0,.string ⟨#[]⟩] 46 (0,0)):=by rw[←HW5.out,←HN5.out];exact heap_alloc_new v4 _
    have HGEn:Hid ((w.heap.size≤b1)∧b1<b5):=Lib.hid ⟨HGE.out,by have h1:=row_lt Rb1.out;have h2:=HN5.out;omega⟩
    replace HB:=Lib.hid (below_step HB.out hb)
    replace Rb1:=Lib.hid ((hb.block _ (row_lt Rb1.out)).trans Rb1.out)
    have Rb5:=Lib.hid hr
    clear hb hr
    have hbz:Below v4.heap.size v4 v5:=by rw[←HW5.out];exact below_new _ _
    replace HV:=Lib.hid (HV.out.below hbz)
    clear hbz
    replace HG:=Lib.hid (hg.out.below HB.out)
    refine wpList_store_row rfl 46 (.tmp 7) (.tmp 28) rfl b5 #[.slice none 0 0,.int .u64 0,.int .u64 0,.int .u64 0,.bool false,.int .u64 0,.bool false,.int .u64 0,.bool false,.int .u64 0,.int .i32 0,.int .u64 0,.bool false,.int .i32 0,.slice none 0 0,.string ⟨#[]⟩,.bool false,.int .i32 0,.slice none 0 0,.string ⟨#[]⟩,.slice none 0 0,.int .u32 0,.int .u64 0,.string ⟨#[]⟩] rfl rfl 46 _ Rb5.out (by kernel_rfl) rfl (by simp[Value.oneCell']) ?_
    obtain ⟨v6,HW6⟩:∃ X,Hid (v5.setRow b5 #[.slice none 0 0,.int .u64 0,.int .u64 0,.int .u64 0,.bool false,.int .u64 0,.bool false,.int .u64 0,.bool false,.int .u64 0,.int .i32 0,.int .u64 0,.bool false,.int .i32 0,.slice none 0 0,.string ⟨#[]⟩,.bool false,.int .i32 0,.slice none 0 0,.string ⟨#[]⟩,.slice none 0 0,.int .u32 0,.int .u64 0,.string ⟨#[]⟩]=X):=⟨_,Lib.hid rfl⟩
    rw[HW6.out]
    have hu:Upd (fun k=>k=b5) v5 v6:=by rw[←HW6.out];exact upd_setRow _ _ _
    have hr:v6.heap[b5]? = some (.cells #[.slice none 0 0,.int .u64 0,.int .u64 0,.int .u64 0,.bool false,.int .u64 0,.bool false,.int .u64 0,.bool false,.int .u64 0,.int .i32 0,.int .u64 0,.bool false,.int .i32 0,.slice none 0 0,.string ⟨#[]⟩,.bool false,.int .i32 0,.slice none 0 0,.string ⟨#[]⟩,.slice none 0 0,.int .u32 0,.int .u64 0,.string ⟨#[]⟩] 46 (0,0)):=by rw[←HW6.out];exact setRow_heap _ _ _ _ _ _ Rb5.out
    replace HV:=Lib.hid (ec_upd15 HV.out hu Rb5.out (by show (24:Nat)≠2;decide))
    replace HB:=Lib.hid (HB.out.trans (hu.below HB.out.size (fun k _ hk=>by have hk:k=b5:=hk;have:=HGEn.out;omega)))
    replace Rb1:=Lib.hid ((hu.block _ (row_lt Rb1.out) (fun h=>by have h:b1=b5:=h;have:=HGEn.out;omega)).trans Rb1.out)
    replace Rb5:=Lib.hid (hr)
    clear hu hr
    replace HG:=Lib.hid (hg.out.below HB.out)
    refine wpList_plain rfl (fun K hK=>?_);go_simp;refine hK _ _ ?_;clear hK K
    go_wp2_with fail
    refine (first25 v6 HG).mono ?_
    rintro E v7 ⟨rfl,hb⟩
    replace HV:=Lib.hid (HV.out.below hb)
    replace HB:=Lib.hid (below_step HB.out hb)
    replace Rb1:=Lib.hid ((hb.block _ (row_lt Rb1.out)).trans Rb1.out)
    replace Rb5:=Lib.hid ((hb.block _ (row_lt Rb5.out)).trans Rb5.out)
    replace HG:=Lib.hid (hg.out.below HB.out)
    replace HEW:=Lib.hid (HE0.out.below HB.out)
    clear hb
    go_wp2_with fail
    refine (codev_any (.inr HV.out) HG.out).mono ?_
    rintro E v8 ⟨rfl,hb⟩
    replace HB:=Lib.hid (below_step HB.out hb)
    replace Rb1:=Lib.hid ((hb.block _ (row_lt Rb1.out)).trans Rb1.out)
    replace Rb5:=Lib.hid ((hb.block _ (row_lt Rb5.out)).trans Rb5.out)
    replace HG:=Lib.hid (hg.out.below HB.out)
    replace HEW:=Lib.hid (HE0.out.below HB.out)
    clear hb
    go_wp2_with fail
    go_ret
    exact ⟨rfl,HB.out⟩
   ·
    obtain ⟨lo5,lc5,po5,pc5,no5,nc5,eo5,ec5,rfl,-⟩:=id hxr
    have HY:Hid (xpCel.R v4 (fun _=>True) ((l,(a,(t,(k,((bp,vp),(sc - (j:Int),(zc,((gp,⟨o1,C1⟩,[]),((gn,⟨o2,C2⟩,[]),(f,(es,((bm,vm),((bg,vg),th))))))))))))),u) [.slice lo5 l.length lc5,.int .u64 (a:Int),.int .u64 (t:Int),.int .u64 (k:Int),.bool bp,.int .u64 (vp:Int),.bool bm,.int .u64 (vm:Int),.bool bg,.int .u64 (vg:Int),.int .i32 (sc - (j:Int)),.int .u64 (zc:Int),.bool gp,.int .i32 o1,.slice po5 C1.length pc5,strV [],.bool gn,.int .i32 o2,.slice no5 C2.length nc5,strV [],.slice eo5 es.length ec5,.int .u32 (f:Int),.int .u64 (th:Int),strV u]):=Lib.hid (xpCel.upd (Upd.refl (fun _=>False) v4) (fun _ _ h=>h) (fun _ _=>trivial) hxr)
    clear hxr hb
    have HAT:=Lib.hid hat
    have HAG:=Lib.hid (fit_again hat ha1 ha2)
    have hle31:=bAt_le hat.2.1
    have hj:j≤31:=by omega
    have HSC:Hid (-2147483648≤sc - (j:Int)∧sc - (j:Int)≤2147483647):=Lib.hid (by have h:=hle31.2.2;have h:j=0 ∨ -10≤min sc sc - (j:Int):=h;omega)
    have HMO:Hid (1≤most∧most≤320):=Lib.hid hat.1
    have HOKY:=Lib.hid (fit_ok (x:=⟨sc,gp,po,pc,gn,no,nc⟩) HOK.out hj ha1 ha2)
    have HTG:=Lib.hid (And.intro (aans_tight ha1) (aans_tight ha2))
    clear hat ha1 ha2 hle31 hj
    have HCL:Hid (C1.length≤320∧C2.length≤320):=Lib.hid (by have h:=HAG.out.2.2.2;have:=HMO.out;omega)
    go_simp
    refine hK _ _ ?_;clear hK K
    iterate 3 (refine wpList_plain rfl (fun K hK=>?_);go_simp;refine hK _ _ ?_;clear hK K)
    refine wpList_plain rfl (fun K hK=>?_);go_simp;refine hK _ _ ?_;clear hK K
    obtain ⟨b5,HNb5⟩:∃ x,Hid (v4.heap.size=x):=⟨_,Lib.hid rfl⟩
    obtain ⟨v5,HWab5⟩:∃ X,Hid (v4.alloc (.cells #[.slice none 0 0,.int .u64 0,.int .u64 0,.int .u64 0,.bool false,.int .u64 0,.bool false,.int .u64 0,.bool false,.int .u64 0,.int .i32 0,.int .u64 0,.bool false,.int .i32 0,.slice none 0 0,.string ⟨#[]⟩,.bool false,.int .i32 0,.slice none 0 0,.string ⟨#[]⟩,.slice none 0 0,.int .u32 0,.int .u64 0,.string ⟨#[]⟩] 46)=X):=⟨_,Lib.hid rfl⟩
    rw[HWab5.out,HNb5.out]
    have hb:Below v4.heap.size v4 v5:=by rw[←HWab5.out];exact below_new _ _
    have hr:v5.heap[b5]? = some (.cells #[.slice none 0 0,.int .u64 0,.int .u64 0,.int .u64 0,.bool false,.int .u64 0,.bool false,.int .u64 0,.bool false,.int .u64 0,.int .i32 0,.int .u64 0,.bool false,.int .i32 0,.slice none 0 0,.string ⟨#[]⟩,.bool false,.int .i32 0,.slice none 0 0,.string ⟨#[]⟩,.slice none 0 0,.int .u32 0,.int .u64 0,.string ⟨#[]⟩] 46 (0,0)):=by rw[←HWab5.out,←HNb5.out];exact heap_alloc_new v4 _
    have HGEn:Hid ((w.heap.size≤b1)∧b1<b5):=Lib.hid ⟨HGE.out,by have h1:=row_lt Rb1.out;have h2:=HNb5.out;omega⟩
    replace HB:=Lib.hid (below_step HB.out hb)
    replace Rb1:=Lib.hid ((hb.block _ (row_lt Rb1.out)).trans Rb1.out)
    have Rb5:=Lib.hid hr
    clear hb hr
    have hbz:Below v4.heap.size v4 v5:=by rw[←HWab5.out];exact below_new _ _
    refine wpList_store_row rfl 46 (.tmp 7) (.tmp 28) rfl b5 #[.slice lo5 l.length lc5,.int .u64 (a:Int),.int .u64 (t:Int),.int .u64 (k:Int),.bool bp,.int .u64 (vp:Int),.bool bm,.int .u64 (vm:Int),.bool bg,.int .u64 (vg:Int),.int .i32 (sc - (j:Int)),.int .u64 (zc:Int),.bool gp,.int .i32 o1,.slice po5 C1.length pc5,strV [],.bool gn,.int .i32 o2,.slice no5 C2.length nc5,strV [],.slice eo5 es.length ec5,.int .u32 (f:Int),.int .u64 (th:Int),strV u] rfl rfl 46 _ Rb5.out (by kernel_rfl) rfl (by simp[Value.oneCell',strV]) ?_
    obtain ⟨v6,HWbb5⟩:∃ X,Hid (v5.setRow b5 #[.slice lo5 l.length lc5,.int .u64 (a:Int),.int .u64 (t:Int),.int .u64 (k:Int),.bool bp,.int .u64 (vp:Int),.bool bm,.int .u64 (vm:Int),.bool bg,.int .u64 (vg:Int),.int .i32 (sc - (j:Int)),.int .u64 (zc:Int),.bool gp,.int .i32 o1,.slice po5 C1.length pc5,strV [],.bool gn,.int .i32 o2,.slice no5 C2.length nc5,strV [],.slice eo5 es.length ec5,.int .u32 (f:Int),.int .u64 (th:Int),strV u]=X):=⟨_,Lib.hid rfl⟩
    rw[HWbb5.out]
    have hu:Upd (fun k=>k=b5) v5 v6:=by rw[←HWbb5.out];exact upd_setRow _ _ _
    have hr:v6.heap[b5]? = some (.cells #[.slice lo5 l.length lc5,.int .u64 (a:Int),.int .u64 (t:Int),.int .u64 (k:Int),.bool bp,.int .u64 (vp:Int),.bool bm,.int .u64 (vm:Int),.bool bg,.int .u64 (vg:Int),.int .i32 (sc - (j:Int)),.int .u64 (zc:Int),.bool gp,.int .i32 o1,.slice po5 C1.length pc5,strV [],.bool gn,.int .i32 o2,.slice no5 C2.length nc5,strV [],.slice eo5 es.length ec5,.int .u32 (f:Int),.int .u64 (th:Int),strV u] 46 (0,0)):=by rw[←HWbb5.out];exact setRow_heap _ _ _ _ _ _ Rb5.out
    replace HB:=Lib.hid (HB.out.trans (hu.below HB.out.size (fun k _ hk=>by have hk:k=b5:=hk;have:=HGEn.out;omega)))
    replace Rb1:=Lib.hid ((hu.block _ (row_lt Rb1.out) (fun h=>by have h:b1=b5:=h;have:=HGEn.out;omega)).trans Rb1.out)
    replace Rb5:=Lib.hid (hr)
    have hbb:Below v4.heap.size v4 v6:=hbz.trans (hu.below hbz.size (fun k _ hk=>by have hk:k=b5:=hk;have:=HNb5.out;omega))
    replace HY:=Lib.hid (xpCel.upd (Upd.of_new (S:=fun _=>False) hbb) (fun _ _ h=>h) (fun _ h=>h) HY.out)
    clear hu hr hbz hbb
    replace HG:=Lib.hid (hg.out.below HB.out)
    replace HEW:=Lib.hid (HE0.out.below HB.out)
    refine wpList_plain rfl (fun K hK=>?_);go_simp;refine hK _ _ ?_;clear hK K
    go_upto_region 8 with fail
    refine wp_region_lit ?_
    refine wpList_load_mid rfl 46 (.tmp 7) rfl b5 0 rfl [.slice lo5 l.length lc5,.int .u64 (a:Int),.int .u64 (t:Int),.int .u64 (k:Int),.bool bp,.int .u64 (vp:Int),.bool bm,.int .u64 (vm:Int),.bool bg,.int .u64 (vg:Int),.int .i32 (sc - (j:Int)),.int .u64 (zc:Int),.bool gp,.int .i32 o1,.slice po5 C1.length pc5,strV [],.bool gn,.int .i32 o2,.slice no5 C2.length nc5,strV [],.slice eo5 es.length ec5,.int .u32 (f:Int),.int .u64 (th:Int),strV u] _ (range_rowf Rb5.out) Tryd.underlying46 rfl (by kernel_rfl) ?_
    refine wpList_plain rfl (fun K hK=>?_);go_simp;refine hK _ _ ?_;clear hK K
    refine wpList_plain rfl (fun K hK=>?_);go_simp
    obtain ⟨lo5q,lc5q,po5q,pc5q,no5q,nc5q,eo5q,ec5q,hq,hk,hp,hn,he⟩:=HY.out
    simp only[List.cons.injEq,Value.slice.injEq,and_true,true_and] at hq
    obtain ⟨⟨rfl,rfl⟩,⟨rfl,rfl⟩,⟨rfl,rfl⟩,rfl,rfl⟩:=hq
    refine (fit_any l a t k bp vp bm vm bg vg (sc - (j:Int)) zc gp o1 C1 ⟨#[]⟩ gn o2 C2 ⟨#[]⟩ es f th u lo5 lc5 po5 pc5 no5 nc5 eo5 ec5 most ew (fun _=>True) v6 (by have:=HWT.out;omega) (by have:=HWT.out;omega) HES (Lib.hid hk) (Lib.hid hp) (Lib.hid hn) (Lib.hid he) HEW HSC.out HOKY).mono ?_
    clear hk hp hn he
    rintro E v7 ⟨hb,cs,v,rfl,hcase⟩
    replace HB:=Lib.hid (below_step HB.out hb)
    replace Rb1:=Lib.hid ((hb.block _ (row_lt Rb1.out)).trans Rb1.out)
    replace Rb5:=Lib.hid ((hb.block _ (row_lt Rb5.out)).trans Rb5.out)
    replace HG:=Lib.hid (hg.out.below HB.out)
    replace HEW:=Lib.hid (HE0.out.below HB.out)
    replace HY:=Lib.hid (xpCel.upd (Upd.of_new (S:=fun _=>False) hb) (fun _ _ h=>h) (fun _ h=>h) HY.out)
    rcases hcase with ⟨hno,-,-,-⟩|⟨rfl,j2,p1,D1,p2,D2,hat2,hb1,hb2,hzr⟩
    ·exfalso
     rcases hno with h|⟨j2,h,h2⟩
     ·exact ft_no HAG.out.1 h
     ·obtain rfl:=ft_uniq HAG.out.1 h
      rw[HAG.out.2.1,HAG.out.2.2.1] at h2
      simp at h2
    ·
     obtain rfl:=ft_uniq HAG.out.1 hat2
     have q1:=Option.some.inj (HAG.out.2.1.symm.trans hb1)
     have q2:=Option.some.inj (HAG.out.2.2.1.symm.trans hb2)
     simp only[Prod.mk.injEq] at q1 q2
     obtain ⟨rfl,rfl⟩:=q1
     obtain ⟨rfl,rfl⟩:=q2
     rw[show sc - (j:Int) - ((0:Nat):Int)=sc - (j:Int) by omega] at hzr
     obtain ⟨lo6,lc6,po6,pc6,no6,nc6,eo6,ec6,rfl,-⟩:=id hzr
     have HZ:Hid (xpCel.R v7 (fun _=>True) ((l,(a,(t,(k,((bp,vp),(sc - (j:Int),(zc,((gp,⟨o1,C1⟩,[]),((gn,⟨o2,C2⟩,[]),(f,(es,((bm,vm),((bg,vg),th))))))))))))),u) [.slice lo6 l.length lc6,.int .u64 (a:Int),.int .u64 (t:Int),.int .u64 (k:Int),.bool bp,.int .u64 (vp:Int),.bool bm,.int .u64 (vm:Int),.bool bg,.int .u64 (vg:Int),.int .i32 (sc - (j:Int)),.int .u64 (zc:Int),.bool gp,.int .i32 o1,.slice po6 C1.length pc6,strV [],.bool gn,.int .i32 o2,.slice no6 C2.length nc6,strV [],.slice eo6 es.length ec6,.int .u32 (f:Int),.int .u64 (th:Int),strV u]):=Lib.hid (xpCel.upd (Upd.refl (fun _=>False) v7) (fun _ _ h=>h) (fun _ _=>trivial) hzr)
     clear hzr hb hat2 hb1 hb2
     go_simp
     refine hK _ _ ?_;clear hK K
     iterate 3 (refine wpList_plain rfl (fun K hK=>?_);go_simp;refine hK _ _ ?_;clear hK K)
     refine wpList_plain rfl (fun K hK=>?_);go_simp;refine hK _ _ ?_;clear hK K
     obtain ⟨b6,HNb6⟩:∃ x,Hid (v7.heap.size=x):=⟨_,Lib.hid rfl⟩
     obtain ⟨v8,HWab6⟩:∃ X,Hid (v7.alloc (.cells #[.slice none 0 0,.int .u64 0,.int .u64 0,.int .u64 0,.bool false,.int .u64 0,.bool false,.int .u64 0,.bool false,.int .u64 0,.int .i32 0,.int .u64 0,.bool false,.int .i32 0,.slice none 0 0,.string ⟨#[]⟩,.bool false,.int .i32 0,.slice none 0 0,.string ⟨#[]⟩,.slice none 0 0,.int .u32 0,.int .u64 0,.string ⟨#[]⟩] 46)=X):=⟨_,Lib.hid rfl⟩
     rw[HWab6.out,HNb6.out]
     have hb:Below v7.heap.size v7 v8:=by rw[←HWab6.out];exact below_new _ _
     have hr:v8.heap[b6]? = some (.cells #[.slice none 0 0,.int .u64 0,.int .u64 0,.int .u64 0,.bool false,.int .u64 0,.bool false,.int .u64 0,.bool false,.int .u64 0,.int .i32 0,.int .u64 0,.bool false,.int .i32 0,.slice none 0 0,.string ⟨#[]⟩,.bool false,.int .i32 0,.slice none 0 0,.string ⟨#[]⟩,.slice none 0 0,.int .u32 0,.int .u64 0,.string ⟨#[]⟩] 46 (0,0)):=by rw[←HWab6.out,←HNb6.out];exact heap_alloc_new v7 _
     have HGEnn:Hid (((w.heap.size≤b1)∧b1<b5)∧b5<b6):=Lib.hid ⟨HGEn.out,by have h1:=row_lt Rb5.out;have h2:=HNb6.out;omega⟩
     replace HB:=Lib.hid (below_step HB.out hb)
     replace Rb1:=Lib.hid ((hb.block _ (row_lt Rb1.out)).trans Rb1.out)
     replace Rb5:=Lib.hid ((hb.block _ (row_lt Rb5.out)).trans Rb5.out)
     have Rb6:=Lib.hid hr
     clear hb hr
     have hbz:Below v7.heap.size v7 v8:=by rw[←HWab6.out];exact below_new _ _
     refine wpList_store_row rfl 46 (.tmp 9) (.tmp 42) rfl b6 #[.slice lo6 l.length lc6,.int .u64 (a:Int),.int .u64 (t:Int),.int .u64 (k:Int),.bool bp,.int .u64 (vp:Int),.bool bm,.int .u64 (vm:Int),.bool bg,.int .u64 (vg:Int),.int .i32 (sc - (j:Int)),.int .u64 (zc:Int),.bool gp,.int .i32 o1,.slice po6 C1.length pc6,strV [],.bool gn,.int .i32 o2,.slice no6 C2.length nc6,strV [],.slice eo6 es.length ec6,.int .u32 (f:Int),.int .u64 (th:Int),strV u] rfl rfl 46 _ Rb6.out (by kernel_rfl) rfl (by simp[Value.oneCell',strV]) ?_
     obtain ⟨v9,HWbb6⟩:∃ X,Hid (v8.setRow b6 #[.slice lo6 l.length lc6,.int .u64 (a:Int),.int .u64 (t:Int),.int .u64 (k:Int),.bool bp,.int .u64 (vp:Int),.bool bm,.int .u64 (vm:Int),.bool bg,.int .u64 (vg:Int),.int .i32 (sc - (j:Int)),.int .u64 (zc:Int),.bool gp,.int .i32 o1,.slice po6 C1.length pc6,strV [],.bool gn,.int .i32 o2,.slice no6 C2.length nc6,strV [],.slice eo6 es.length ec6,.int .u32 (f:Int),.int .u64 (th:Int),strV u]=X):=⟨_,Lib.hid rfl⟩
     rw[HWbb6.out]
     have hu:Upd (fun k=>k=b6) v8 v9:=by rw[←HWbb6.out];exact upd_setRow _ _ _
     have hr:v9.heap[b6]? = some (.cells #[.slice lo6 l.length lc6,.int .u64 (a:Int),.int .u64 (t:Int),.int .u64 (k:Int),.bool bp,.int .u64 (vp:Int),.bool bm,.int .u64 (vm:Int),.bool bg,.int .u64 (vg:Int),.int .i32 (sc - (j:Int)),.int .u64 (zc:Int),.bool gp,.int .i32 o1,.slice po6 C1.length pc6,strV [],.bool gn,.int .i32 o2,.slice no6 C2.length nc6,strV [],.slice eo6 es.length ec6,.int .u32 (f:Int),.int .u64 (th:Int),strV u] 46 (0,0)):=by rw[←HWbb6.out];exact setRow_heap _ _ _ _ _ _ Rb6.out
     replace HB:=Lib.hid (HB.out.trans (hu.below HB.out.size (fun k _ hk=>by have hk:k=b6:=hk;have:=HGEnn.out;omega)))
     replace Rb1:=Lib.hid ((hu.block _ (row_lt Rb1.out) (fun h=>by have h:b1=b6:=h;have:=HGEnn.out;omega)).trans Rb1.out)
     replace Rb5:=Lib.hid ((hu.block _ (row_lt Rb5.out) (fun h=>by have h:b5=b6:=h;have:=HGEnn.out;omega)).trans Rb5.out)
     replace Rb6:=Lib.hid (hr)
     have hbb:Below v7.heap.size v7 v9:=hbz.trans (hu.below hbz.size (fun k _ hk=>by have hk:k=b6:=hk;have:=HNb6.out;omega))
     replace HY:=Lib.hid (xpCel.upd (Upd.of_new (S:=fun _=>False) hbb) (fun _ _ h=>h) (fun _ h=>h) HY.out)
     replace HZ:=Lib.hid (xpCel.upd (Upd.of_new (S:=fun _=>False) hbb) (fun _ _ h=>h) (fun _ h=>h) HZ.out)
     clear hu hr hbz hbb
     replace HG:=Lib.hid (hg.out.below HB.out)
     replace HEW:=Lib.hid (HE0.out.below HB.out)
     refine wpList_plain rfl (fun K hK=>?_);go_simp;refine hK _ _ ?_;clear hK K
     go_upto_region 9 with fail
     refine wp_region_lit ?_
     refine wpList_load_mid rfl 46 (.tmp 7) rfl b5 0 rfl [.slice lo5 l.length lc5,.int .u64 (a:Int),.int .u64 (t:Int),.int .u64 (k:Int),.bool bp,.int .u64 (vp:Int),.bool bm,.int .u64 (vm:Int),.bool bg,.int .u64 (vg:Int),.int .i32 (sc - (j:Int)),.int .u64 (zc:Int),.bool gp,.int .i32 o1,.slice po5 C1.length pc5,strV [],.bool gn,.int .i32 o2,.slice no5 C2.length nc5,strV [],.slice eo5 es.length ec5,.int .u32 (f:Int),.int .u64 (th:Int),strV u] _ (range_rowf Rb5.out) Tryd.underlying46 rfl (by kernel_rfl) ?_
     iterate 5 (refine wpList_plain rfl (fun K hK=>?_);go_simp;refine hK _ _ ?_;clear hK K)
     refine wpList_plain rfl (fun K hK=>?_);go_simp
     obtain ⟨M,HM⟩:∃ M,Hid (max (IntKind.i64.wrap (most - less.tmod 40)) 1=M):=⟨_,Lib.hid rfl⟩
     rw[HM.out]
     obtain ⟨lo5q,lc5q,po5q,pc5q,no5q,nc5q,eo5q,ec5q,hq,hk,hp,hn,he⟩:=HY.out
     simp only[List.cons.injEq,Value.slice.injEq,and_true,true_and] at hq
     obtain ⟨⟨rfl,rfl⟩,⟨rfl,rfl⟩,⟨rfl,rfl⟩,rfl,rfl⟩:=hq
     refine (fit_any l a t k bp vp bm vm bg vg (sc - (j:Int)) zc gp o1 C1 ⟨#[]⟩ gn o2 C2 ⟨#[]⟩ es f th u lo5 lc5 po5 pc5 no5 nc5 eo5 ec5 M ew (fun _=>True) v9 (by have:=HWT.out;omega) (by have:=HWT.out;omega) HES (Lib.hid hk) (Lib.hid hp) (Lib.hid hn) (Lib.hid he) HEW HSC.out HOKY).mono ?_
     clear hk hp hn he
     rintro E v10 ⟨hb,cs,v,rfl,hcase⟩
     replace HB:=Lib.hid (below_step HB.out hb)
     replace Rb1:=Lib.hid ((hb.block _ (row_lt Rb1.out)).trans Rb1.out)
     replace Rb5:=Lib.hid ((hb.block _ (row_lt Rb5.out)).trans Rb5.out)
     replace Rb6:=Lib.hid ((hb.block _ (row_lt Rb6.out)).trans Rb6.out)
     replace HG:=Lib.hid (hg.out.below HB.out)
     replace HEW:=Lib.hid (HE0.out.below HB.out)
     replace HY:=Lib.hid (xpCel.upd (Upd.of_new (S:=fun _=>False) hb) (fun _ _ h=>h) (fun _ h=>h) HY.out)
     replace HZ:=Lib.hid (xpCel.upd (Upd.of_new (S:=fun _=>False) hb) (fun _ _ h=>h) (fun _ h=>h) HZ.out)
     clear hb
     have HYA:Hid (xp_arg ((l,(a,(t,(k,((bp,vp),(sc - (j:Int),(zc,((gp,⟨o1,C1⟩,[]),((gn,⟨o2,C2⟩,[]),(f,(es,((bm,vm),((bg,vg),th))))))))))))),u)):=Lib.hid ⟨qfl,qll,qzl,qa,qt,qk,qvp,HSC.out,qzc,⟨(HOKY.out 0 (by omega)).1.lo,(HOKY.out 0 (by omega)).1.hi,(HOKY.out 0 (by omega)).1.each⟩,by have:=HCL.out;show C1.length≤_;omega,by show 0≤9223372036854775807;omega,⟨(HOKY.out 0 (by omega)).2.lo,(HOKY.out 0 (by omega)).2.hi,(HOKY.out 0 (by omega)).2.each⟩,by have:=HCL.out;show C2.length≤_;omega,by show 0≤9223372036854775807;omega,qf,qes,qel,qvm,qvg,qth,qu⟩
     have HYW:Hid (xp_wt ((l,(a,(t,(k,((bp,vp),(sc - (j:Int),(zc,((gp,⟨o1,C1⟩,[]),((gn,⟨o2,C2⟩,[]),(f,(es,((bm,vm),((bg,vg),th))))))))))))),u)≤1000000):=Lib.hid (by
      have h:100+(ksw l+10 * pc.length+pu.length+10 * nc.length+nu.length+lwt exSb es+u.length)≤16000:=HF.out
      have h2:=HCL.out
      show 100+(ksw l+10 * C1.length+0+10 * C2.length+0+lwt exSb es+u.length)≤_
      omega)
     have dm1:decide ((C1.length:Int)≤most)=true:=decide_eq_true HAG.out.2.2.2.1
     have dm2:decide ((C2.length:Int)≤most)=true:=decide_eq_true HAG.out.2.2.2.2
     have dsc:decide (sc - (j:Int)≤sc)=true:=decide_eq_true (by omega)
     clear qfl qll qzl qa qt qk qvp qsc qzc qpb qpl qpu qnb qnl qnu qf qes qel qvm qvg qth qu
     rcases hcase with ⟨-,-,⟨T,y,rfl⟩,rfl⟩|⟨rfl,j3,o3,C3,o4,C4,-,-,-,hwr⟩
     ·
      go_simp
      refine hK _ _ ?_;clear hK K
      iterate 3 (refine wpList_plain rfl (fun K hK=>?_);go_simp;refine hK _ _ ?_;clear hK K)
      refine wpList_plain rfl (fun K hK=>?_);go_simp;refine hK _ _ ?_;clear hK K
      obtain ⟨b7,HNb7⟩:∃ x,Hid (v10.heap.size=x):=⟨_,Lib.hid rfl⟩
      obtain ⟨v11,HWab7⟩:∃ X,Hid (v10.alloc (.cells #[.slice none 0 0,.int .u64 0,.int .u64 0,.int .u64 0,.bool false,.int .u64 0,.bool false,.int .u64 0,.bool false,.int .u64 0,.int .i32 0,.int .u64 0,.bool false,.int .i32 0,.slice none 0 0,.string ⟨#[]⟩,.bool false,.int .i32 0,.slice none 0 0,.string ⟨#[]⟩,.slice none 0 0,.int .u32 0,.int .u64 0,.string ⟨#[]⟩] 46)=X):=⟨_,Lib.hid rfl⟩
      rw[HWab7.out,HNb7.out]
      have hb:Below v10.heap.size v10 v11:=by rw[←HWab7.out];exact below_new _ _
      have hr:v11.heap[b7]? = some (.cells #[.slice none 0 0,.int .u64 0,.int .u64 0,.int .u64 0,.bool false,.int .u64 0,.bool false,.int .u64 0,.bool false,.int .u64 0,.int .i32 0,.int .u64 0,.bool false,.int .i32 0,.slice none 0 0,.string ⟨#[]⟩,.bool false,.int .i32 0,.slice none 0 0,.string ⟨#[]⟩,.slice none 0 0,.int .u32 0,.int .u64 0,.string ⟨#[]⟩] 46 (0,0)):=by rw[←HWab7.out,←HNb7.out];exact heap_alloc_new v10 _
      have HGEnnn:Hid ((((w.heap.size≤b1)∧b1<b5)∧b5<b6)∧b6<b7):=Lib.hid ⟨HGEnn.out,by have h1:=row_lt Rb6.out;have h2:=HNb7.out;omega⟩
      replace HB:=Lib.hid (below_step HB.out hb)
      replace Rb1:=Lib.hid ((hb.block _ (row_lt Rb1.out)).trans Rb1.out)
      replace Rb5:=Lib.hid ((hb.block _ (row_lt Rb5.out)).trans Rb5.out)
      replace Rb6:=Lib.hid ((hb.block _ (row_lt Rb6.out)).trans Rb6.out)
      have Rb7:=Lib.hid hr
      clear hb hr
      have hbz:Below v10.heap.size v10 v11:=by rw[←HWab7.out];exact below_new _ _
      refine wpList_store_row rfl 46 (.tmp 11) (.tmp 52) rfl b7 #[.slice none 0 0,.int .u64 0,.int .u64 0,.int .u64 0,.bool false,.int .u64 0,.bool false,.int .u64 0,.bool false,.int .u64 0,.int .i32 0,.int .u64 0,.bool false,.int .i32 0,.slice none 0 0,.string ⟨#[]⟩,.bool false,.int .i32 0,.slice none 0 0,.string ⟨#[]⟩,.slice none 0 0,.int .u32 0,.int .u64 0,.string ⟨#[]⟩] rfl rfl 46 _ Rb7.out (by kernel_rfl) rfl (by simp[Value.oneCell']) ?_
      obtain ⟨v12,HWbb7⟩:∃ X,Hid (v11.setRow b7 #[.slice none 0 0,.int .u64 0,.int .u64 0,.int .u64 0,.bool false,.int .u64 0,.bool false,.int .u64 0,.bool false,.int .u64 0,.int .i32 0,.int .u64 0,.bool false,.int .i32 0,.slice none 0 0,.string ⟨#[]⟩,.bool false,.int .i32 0,.slice none 0 0,.string ⟨#[]⟩,.slice none 0 0,.int .u32 0,.int .u64 0,.string ⟨#[]⟩]=X):=⟨_,Lib.hid rfl⟩
      rw[HWbb7.out]
      have hu:Upd (fun k=>k=b7) v11 v12:=by rw[←HWbb7.out];exact upd_setRow _ _ _
      have hr:v12.heap[b7]? = some (.cells #[.slice none 0 0,.int .u64 0,.int .u64 0,.int .u64 0,.bool false,.int .u64 0,.bool false,.int .u64 0,.bool false,.int .u64 0,.int .i32 0,.int .u64 0,.bool false,.int .i32 0,.slice none 0 0,.string ⟨#[]⟩,.bool false,.int .i32 0,.slice none 0 0,.string ⟨#[]⟩,.slice none 0 0,.int .u32 0,.int .u64 0,.string ⟨#[]⟩] 46 (0,0)):=by rw[←HWbb7.out];exact setRow_heap _ _ _ _ _ _ Rb7.out
      replace HB:=Lib.hid (HB.out.trans (hu.below HB.out.size (fun k _ hk=>by have hk:k=b7:=hk;have:=HGEnnn.out;omega)))
      replace Rb1:=Lib.hid ((hu.block _ (row_lt Rb1.out) (fun h=>by have h:b1=b7:=h;have:=HGEnnn.out;omega)).trans Rb1.out)
      replace Rb5:=Lib.hid ((hu.block _ (row_lt Rb5.out) (fun h=>by have h:b5=b7:=h;have:=HGEnnn.out;omega)).trans Rb5.out)
      replace Rb6:=Lib.hid ((hu.block _ (row_lt Rb6.out) (fun h=>by have h:b6=b7:=h;have:=HGEnnn.out;omega)).trans Rb6.out)
      replace Rb7:=Lib.hid (hr)
      have hbb:Below v10.heap.size v10 v12:=hbz.trans (hu.below hbz.size (fun k _ hk=>by have hk:k=b7:=hk;have:=HNb7.out;omega))
      replace HY:=Lib.hid (xpCel.upd (Upd.of_new (S:=fun _=>False) hbb) (fun _ _ h=>h) (fun _ h=>h) HY.out)
      replace HZ:=Lib.hid (xpCel.upd (Upd.of_new (S:=fun _=>False) hbb) (fun _ _ h=>h) (fun _ h=>h) HZ.out)
      clear hu hr hbz hbb
      replace HG:=Lib.hid (hg.out.below HB.out)
      replace HEW:=Lib.hid (HE0.out.below HB.out)
      refine wpList_plain rfl (fun K hK=>?_);go_simp;refine hK _ _ ?_;clear hK K
      go_upto_region 10 with fail
      refine wp_region_lit ?_
      refine wpList_plain rfl (fun K hK=>?_);go_simp
      refine (first25 v12 HG).mono ?_
      rintro E v13 ⟨rfl,hb⟩
      replace HB:=Lib.hid (below_step HB.out hb)
      replace Rb1:=Lib.hid ((hb.block _ (row_lt Rb1.out)).trans Rb1.out)
      replace Rb5:=Lib.hid ((hb.block _ (row_lt Rb5.out)).trans Rb5.out)
      replace Rb6:=Lib.hid ((hb.block _ (row_lt Rb6.out)).trans Rb6.out)
      replace Rb7:=Lib.hid ((hb.block _ (row_lt Rb7.out)).trans Rb7.out)
      replace HG:=Lib.hid (hg.out.below HB.out)
      replace HEW:=Lib.hid (HE0.out.below HB.out)
      replace HY:=Lib.hid (xpCel.upd (Upd.of_new (S:=fun _=>False) hb) (fun _ _ h=>h) (fun _ h=>h) HY.out)
      replace HZ:=Lib.hid (xpCel.upd (Upd.of_new (S:=fun _=>False) hb) (fun _ _ h=>h) (fun _ h=>h) HZ.out)
      clear hb
      go_simp
      refine hK _ _ ?_;clear hK K
      iterate 5 (refine wpList_step fun K hK=>?_;go_simp;refine hK _ _ ?_;clear hK K)
      refine wpList_unguard (by go_simp) ?_
      refine wpList_load_mid rfl 46 (.tmp 7) rfl b5 0 rfl [.slice lo5 l.length lc5,.int .u64 (a:Int),.int .u64 (t:Int),.int .u64 (k:Int),.bool bp,.int .u64 (vp:Int),.bool bm,.int .u64 (vm:Int),.bool bg,.int .u64 (vg:Int),.int .i32 (sc - (j:Int)),.int .u64 (zc:Int),.bool gp,.int .i32 o1,.slice po5 C1.length pc5,strV [],.bool gn,.int .i32 o2,.slice no5 C2.length nc5,strV [],.slice eo5 es.length ec5,.int .u32 (f:Int),.int .u64 (th:Int),strV u] _ (range_rowf Rb5.out) Tryd.underlying46 rfl (by kernel_rfl) ?_
      refine wpList_unguard (by go_simp) ?_
      refine wpList_load_mid rfl 46 (.tmp 9) rfl b6 0 rfl [.slice lo6 l.length lc6,.int .u64 (a:Int),.int .u64 (t:Int),.int .u64 (k:Int),.bool bp,.int .u64 (vp:Int),.bool bm,.int .u64 (vm:Int),.bool bg,.int .u64 (vg:Int),.int .i32 (sc - (j:Int)),.int .u64 (zc:Int),.bool gp,.int .i32 o1,.slice po6 C1.length pc6,strV [],.bool gn,.int .i32 o2,.slice no6 C2.length nc6,strV [],.slice eo6 es.length ec6,.int .u32 (f:Int),.int .u64 (th:Int),strV u] _ (range_rowf Rb6.out) Tryd.underlying46 rfl (by kernel_rfl) ?_
      refine wpList_unguard (by go_simp) ?_
      refine wpList_plain rfl (fun K hK=>?_);go_simp
      refine (xp_ref ((l,(a,(t,(k,((bp,vp),(sc - (j:Int),(zc,((gp,⟨o1,C1⟩,[]),((gn,⟨o2,C2⟩,[]),(f,(es,((bm,vm),((bg,vg),th))))))))))))),u) ((l,(a,(t,(k,((bp,vp),(sc - (j:Int),(zc,((gp,⟨o1,C1⟩,[]),((gn,⟨o2,C2⟩,[]),(f,(es,((bm,vm),((bg,vg),th))))))))))))),u) [.slice lo5 l.length lc5,.int .u64 (a:Int),.int .u64 (t:Int),.int .u64 (k:Int),.bool bp,.int .u64 (vp:Int),.bool bm,.int .u64 (vm:Int),.bool bg,.int .u64 (vg:Int),.int .i32 (sc - (j:Int)),.int .u64 (zc:Int),.bool gp,.int .i32 o1,.slice po5 C1.length pc5,strV [],.bool gn,.int .i32 o2,.slice no5 C2.length nc5,strV [],.slice eo5 es.length ec5,.int .u32 (f:Int),.int .u64 (th:Int),strV u] [.slice lo6 l.length lc6,.int .u64 (a:Int),.int .u64 (t:Int),.int .u64 (k:Int),.bool bp,.int .u64 (vp:Int),.bool bm,.int .u64 (vm:Int),.bool bg,.int .u64 (vg:Int),.int .i32 (sc - (j:Int)),.int .u64 (zc:Int),.bool gp,.int .i32 o1,.slice po6 C1.length pc6,strV [],.bool gn,.int .i32 o2,.slice no6 C2.length nc6,strV [],.slice eo6 es.length ec6,.int .u32 (f:Int),.int .u64 (th:Int),strV u] _ _ v13 HYA.out HYW.out HY.out HZ.out).mono ?_
      rw[alike_self]
      rintro E v14 ⟨rfl,hb⟩
      replace HB:=Lib.hid (below_step HB.out hb)
      replace Rb1:=Lib.hid ((hb.block _ (row_lt Rb1.out)).trans Rb1.out)
      replace Rb5:=Lib.hid ((hb.block _ (row_lt Rb5.out)).trans Rb5.out)
      replace Rb6:=Lib.hid ((hb.block _ (row_lt Rb6.out)).trans Rb6.out)
      replace Rb7:=Lib.hid ((hb.block _ (row_lt Rb7.out)).trans Rb7.out)
      replace HG:=Lib.hid (hg.out.below HB.out)
      replace HEW:=Lib.hid (HE0.out.below HB.out)
      replace HY:=Lib.hid (xpCel.upd (Upd.of_new (S:=fun _=>False) hb) (fun _ _ h=>h) (fun _ h=>h) HY.out)
      clear hb HZ
      go_simp
      refine hK _ _ ?_;clear hK K
      have y13:v14.cell? ⟨b5,13,none⟩=some (.int .i32 o1):=row_cell Rb5.out (j:=13) rfl
      have y14:v14.cell? ⟨b5,14,none⟩=some (.slice po5 C1.length pc5):=row_cell Rb5.out (j:=14) rfl
      have y15:v14.cell? ⟨b5,15,none⟩=some (strV []):=row_cell Rb5.out (j:=15) rfl
      have y18:v14.cell? ⟨b5,18,none⟩=some (.slice no5 C2.length nc5):=row_cell Rb5.out (j:=18) rfl
      iterate 20 (refine wpList_step fun K hK=>?_;go_simp;refine hK _ _ ?_;clear hK K)
      refine wpList_unguard (by go_simp) ?_
      refine wpList_plain rfl (fun K hK=>?_);go_simp
      obtain ⟨lo5q,lc5q,po5q,pc5q,no5q,nc5q,eo5q,ec5q,hq,hk,hp,hn,he⟩:=HY.out
      simp only[List.cons.injEq,Value.slice.injEq,and_true,true_and] at hq
      obtain ⟨⟨rfl,rfl⟩,⟨rfl,rfl⟩,⟨rfl,rfl⟩,rfl,rfl⟩:=hq
      refine (tight_any o1 C1 po5 pc5 ⟨#[]⟩ v14 HTG.out.1 (by have:=HCL.out;omega) (Lib.hid (nats_of_rels hp))).mono ?_
      rintro E v15 ⟨rfl,hb⟩
      clear hk hp hn he
      replace HB:=Lib.hid (below_step HB.out hb)
      replace Rb1:=Lib.hid ((hb.block _ (row_lt Rb1.out)).trans Rb1.out)
      replace Rb5:=Lib.hid ((hb.block _ (row_lt Rb5.out)).trans Rb5.out)
      replace Rb6:=Lib.hid ((hb.block _ (row_lt Rb6.out)).trans Rb6.out)
      replace Rb7:=Lib.hid ((hb.block _ (row_lt Rb7.out)).trans Rb7.out)
      replace HG:=Lib.hid (hg.out.below HB.out)
      replace HEW:=Lib.hid (HE0.out.below HB.out)
      replace HY:=Lib.hid (xpCel.upd (Upd.of_new (S:=fun _=>False) hb) (fun _ _ h=>h) (fun _ h=>h) HY.out)
      clear hb y13 y14 y15 y18
      go_simp
      refine hK _ _ ?_;clear hK K
      have y17:v15.cell? ⟨b5,17,none⟩=some (.int .i32 o2):=row_cell Rb5.out (j:=17) rfl
      have y18:v15.cell? ⟨b5,18,none⟩=some (.slice no5 C2.length nc5):=row_cell Rb5.out (j:=18) rfl
      have y19:v15.cell? ⟨b5,19,none⟩=some (strV []):=row_cell Rb5.out (j:=19) rfl
      iterate 4 (refine wpList_step fun K hK=>?_;go_simp;refine hK _ _ ?_;clear hK K)
      refine wpList_unguard (by go_simp) ?_
      refine wpList_plain rfl (fun K hK=>?_);go_simp
      obtain ⟨lo5q,lc5q,po5q,pc5q,no5q,nc5q,eo5q,ec5q,hq,hk,hp,hn,he⟩:=HY.out
      simp only[List.cons.injEq,Value.slice.injEq,and_true,true_and] at hq
      obtain ⟨⟨rfl,rfl⟩,⟨rfl,rfl⟩,⟨rfl,rfl⟩,rfl,rfl⟩:=hq
      refine (tight_any o2 C2 no5 nc5 ⟨#[]⟩ v15 HTG.out.2 (by have:=HCL.out;omega) (Lib.hid (nats_of_rels hn))).mono ?_
      rintro E v16 ⟨rfl,hb⟩
      clear hk hp hn he
      replace HB:=Lib.hid (below_step HB.out hb)
      replace Rb1:=Lib.hid ((hb.block _ (row_lt Rb1.out)).trans Rb1.out)
      replace Rb5:=Lib.hid ((hb.block _ (row_lt Rb5.out)).trans Rb5.out)
      replace Rb6:=Lib.hid ((hb.block _ (row_lt Rb6.out)).trans Rb6.out)
      replace Rb7:=Lib.hid ((hb.block _ (row_lt Rb7.out)).trans Rb7.out)
      replace HG:=Lib.hid (hg.out.below HB.out)
      replace HEW:=Lib.hid (HE0.out.below HB.out)
      replace HY:=Lib.hid (xpCel.upd (Upd.of_new (S:=fun _=>False) hb) (fun _ _ h=>h) (fun _ h=>h) HY.out)
      clear hb y17 y18 y19
      go_simp
      refine hK _ _ ?_;clear hK K
      have y10:v16.cell? ⟨b5,10,none⟩=some (.int .i32 (sc - (j:Int))):=row_cell Rb5.out (j:=10) rfl
      have y3:v16.cell? ⟨b5,3,none⟩=some (.int .u64 (k:Int)):=row_cell Rb5.out (j:=3) rfl
      have y1:v16.cell? ⟨b5,1,none⟩=some (.int .u64 (a:Int)):=row_cell Rb5.out (j:=1) rfl
      have x10:v16.cell? ⟨b1,10,none⟩=some (.int .i32 sc):=row_cell Rb1.out (j:=10) rfl
      have x3:v16.cell? ⟨b1,3,none⟩=some (.int .u64 (k:Int)):=row_cell Rb1.out (j:=3) rfl
      have x1:v16.cell? ⟨b1,1,none⟩=some (.int .u64 (a:Int)):=row_cell Rb1.out (j:=1) rfl
      have z10:v16.cell? ⟨b7,10,none⟩=some (.int .i32 0):=row_cell Rb7.out (j:=10) rfl
      iterate 34 (refine wpList_step fun K hK=>?_;go_simp;refine hK _ _ ?_;clear hK K)
      go_wp2_with fail
      go_ret
      exact ⟨rfl,HB.out⟩
     ·
      obtain ⟨lo7,lc7,po7,pc7,no7,nc7,eo7,ec7,rfl,-⟩:=hwr
      go_simp
      refine hK _ _ ?_;clear hK K
      iterate 3 (refine wpList_plain rfl (fun K hK=>?_);go_simp;refine hK _ _ ?_;clear hK K)
      refine wpList_plain rfl (fun K hK=>?_);go_simp;refine hK _ _ ?_;clear hK K
      obtain ⟨b7,HNb7⟩:∃ x,Hid (v10.heap.size=x):=⟨_,Lib.hid rfl⟩
      obtain ⟨v11,HWab7⟩:∃ X,Hid (v10.alloc (.cells #[.slice none 0 0,.int .u64 0,.int .u64 0,.int .u64 0,.bool false,.int .u64 0,.bool false,.int .u64 0,.bool false,.int .u64 0,.int .i32 0,.int .u64 0,.bool false,.int .i32 0,.slice none 0 0,.string ⟨#[]⟩,.bool false,.int .i32 0,.slice none 0 0,.string ⟨#[]⟩,.slice none 0 0,.int .u32 0,.int .u64 0,.string ⟨#[]⟩] 46)=X):=⟨_,Lib.hid rfl⟩
      rw[HWab7.out,HNb7.out]
      have hb:Below v10.heap.size v10 v11:=by rw[←HWab7.out];exact below_new _ _
      have hr:v11.heap[b7]? = some (.cells #[.slice none 0 0,.int .u64 0,.int .u64 0,.int .u64 0,.bool false,.int .u64 0,.bool false,.int .u64 0,.bool false,.int .u64 0,.int .i32 0,.int .u64 0,.bool false,.int .i32 0,.slice none 0 0,.string ⟨#[]⟩,.bool false,.int .i32 0,.slice none 0 0,.string ⟨#[]⟩,.slice none 0 0,.int .u32 0,.int .u64 0,.string ⟨#[]⟩] 46 (0,0)):=by rw[←HWab7.out,←HNb7.out];exact heap_alloc_new v10 _
      have HGEnnn:Hid ((((w.heap.size≤b1)∧b1<b5)∧b5<b6)∧b6<b7):=Lib.hid ⟨HGEnn.out,by have h1:=row_lt Rb6.out;have h2:=HNb7.out;omega⟩
      replace HB:=Lib.hid (below_step HB.out hb)
      replace Rb1:=Lib.hid ((hb.block _ (row_lt Rb1.out)).trans Rb1.out)
      replace Rb5:=Lib.hid ((hb.block _ (row_lt Rb5.out)).trans Rb5.out)
      replace Rb6:=Lib.hid ((hb.block _ (row_lt Rb6.out)).trans Rb6.out)
      have Rb7:=Lib.hid hr
      clear hb hr
      have hbz:Below v10.heap.size v10 v11:=by rw[←HWab7.out];exact below_new _ _
      refine wpList_store_row rfl 46 (.tmp 11) (.tmp 52) rfl b7 #[.slice lo7 l.length lc7,.int .u64 (a:Int),.int .u64 (t:Int),.int .u64 (k:Int),.bool bp,.int .u64 (vp:Int),.bool bm,.int .u64 (vm:Int),.bool bg,.int .u64 (vg:Int),.int .i32 (sc - (j:Int) - (j3:Int)),.int .u64 (zc:Int),.bool gp,.int .i32 o3,.slice po7 C3.length pc7,strV [],.bool gn,.int .i32 o4,.slice no7 C4.length nc7,strV [],.slice eo7 es.length ec7,.int .u32 (f:Int),.int .u64 (th:Int),strV u] rfl rfl 46 _ Rb7.out (by kernel_rfl) rfl (by simp[Value.oneCell',strV]) ?_
      obtain ⟨v12,HWbb7⟩:∃ X,Hid (v11.setRow b7 #[.slice lo7 l.length lc7,.int .u64 (a:Int),.int .u64 (t:Int),.int .u64 (k:Int),.bool bp,.int .u64 (vp:Int),.bool bm,.int .u64 (vm:Int),.bool bg,.int .u64 (vg:Int),.int .i32 (sc - (j:Int) - (j3:Int)),.int .u64 (zc:Int),.bool gp,.int .i32 o3,.slice po7 C3.length pc7,strV [],.bool gn,.int .i32 o4,.slice no7 C4.length nc7,strV [],.slice eo7 es.length ec7,.int .u32 (f:Int),.int .u64 (th:Int),strV u]=X):=⟨_,Lib.hid rfl⟩
      rw[HWbb7.out]
      have hu:Upd (fun k=>k=b7) v11 v12:=by rw[←HWbb7.out];exact upd_setRow _ _ _
      have hr:v12.heap[b7]? = some (.cells #[.slice lo7 l.length lc7,.int .u64 (a:Int),.int .u64 (t:Int),.int .u64 (k:Int),.bool bp,.int .u64 (vp:Int),.bool bm,.int .u64 (vm:Int),.bool bg,.int .u64 (vg:Int),.int .i32 (sc - (j:Int) - (j3:Int)),.int .u64 (zc:Int),.bool gp,.int .i32 o3,.slice po7 C3.length pc7,strV [],.bool gn,.int .i32 o4,.slice no7 C4.length nc7,strV [],.slice eo7 es.length ec7,.int .u32 (f:Int),.int .u64 (th:Int),strV u] 46 (0,0)):=by rw[←HWbb7.out];exact setRow_heap _ _ _ _ _ _ Rb7.out
      replace HB:=Lib.hid (HB.out.trans (hu.below HB.out.size (fun k _ hk=>by have hk:k=b7:=hk;have:=HGEnnn.out;omega)))
      replace Rb1:=Lib.hid ((hu.block _ (row_lt Rb1.out) (fun h=>by have h:b1=b7:=h;have:=HGEnnn.out;omega)).trans Rb1.out)
      replace Rb5:=Lib.hid ((hu.block _ (row_lt Rb5.out) (fun h=>by have h:b5=b7:=h;have:=HGEnnn.out;omega)).trans Rb5.out)
      replace Rb6:=Lib.hid ((hu.block _ (row_lt Rb6.out) (fun h=>by have h:b6=b7:=h;have:=HGEnnn.out;omega)).trans Rb6.out)
      replace Rb7:=Lib.hid (hr)
      have hbb:Below v10.heap.size v10 v12:=hbz.trans (hu.below hbz.size (fun k _ hk=>by have hk:k=b7:=hk;have:=HNb7.out;omega))
      replace HY:=Lib.hid (xpCel.upd (Upd.of_new (S:=fun _=>False) hbb) (fun _ _ h=>h) (fun _ h=>h) HY.out)
      replace HZ:=Lib.hid (xpCel.upd (Upd.of_new (S:=fun _=>False) hbb) (fun _ _ h=>h) (fun _ h=>h) HZ.out)
      clear hu hr hbz hbb
      replace HG:=Lib.hid (hg.out.below HB.out)
      replace HEW:=Lib.hid (HE0.out.below HB.out)
      refine wpList_plain rfl (fun K hK=>?_);go_simp;refine hK _ _ ?_;clear hK K
      go_upto_region 10 with fail
      refine wp_region_lit ?_
      refine wpList_plain rfl (fun K hK=>?_);go_simp
      refine (first25 v12 HG).mono ?_
      rintro E v13 ⟨rfl,hb⟩
      replace HB:=Lib.hid (below_step HB.out hb)
      replace Rb1:=Lib.hid ((hb.block _ (row_lt Rb1.out)).trans Rb1.out)
      replace Rb5:=Lib.hid ((hb.block _ (row_lt Rb5.out)).trans Rb5.out)
      replace Rb6:=Lib.hid ((hb.block _ (row_lt Rb6.out)).trans Rb6.out)
      replace Rb7:=Lib.hid ((hb.block _ (row_lt Rb7.out)).trans Rb7.out)
      replace HG:=Lib.hid (hg.out.below HB.out)
      replace HEW:=Lib.hid (HE0.out.below HB.out)
      replace HY:=Lib.hid (xpCel.upd (Upd.of_new (S:=fun _=>False) hb) (fun _ _ h=>h) (fun _ h=>h) HY.out)
      replace HZ:=Lib.hid (xpCel.upd (Upd.of_new (S:=fun _=>False) hb) (fun _ _ h=>h) (fun _ h=>h) HZ.out)
      clear hb
      go_simp
      refine hK _ _ ?_;clear hK K
      iterate 5 (refine wpList_step fun K hK=>?_;go_simp;refine hK _ _ ?_;clear hK K)
      refine wpList_unguard (by go_simp) ?_
      refine wpList_load_mid rfl 46 (.tmp 7) rfl b5 0 rfl [.slice lo5 l.length lc5,.int .u64 (a:Int),.int .u64 (t:Int),.int .u64 (k:Int),.bool bp,.int .u64 (vp:Int),.bool bm,.int .u64 (vm:Int),.bool bg,.int .u64 (vg:Int),.int .i32 (sc - (j:Int)),.int .u64 (zc:Int),.bool gp,.int .i32 o1,.slice po5 C1.length pc5,strV [],.bool gn,.int .i32 o2,.slice no5 C2.length nc5,strV [],.slice eo5 es.length ec5,.int .u32 (f:Int),.int .u64 (th:Int),strV u] _ (range_rowf Rb5.out) Tryd.underlying46 rfl (by kernel_rfl) ?_
      refine wpList_unguard (by go_simp) ?_
      refine wpList_load_mid rfl 46 (.tmp 9) rfl b6 0 rfl [.slice lo6 l.length lc6,.int .u64 (a:Int),.int .u64 (t:Int),.int .u64 (k:Int),.bool bp,.int .u64 (vp:Int),.bool bm,.int .u64 (vm:Int),.bool bg,.int .u64 (vg:Int),.int .i32 (sc - (j:Int)),.int .u64 (zc:Int),.bool gp,.int .i32 o1,.slice po6 C1.length pc6,strV [],.bool gn,.int .i32 o2,.slice no6 C2.length nc6,strV [],.slice eo6 es.length ec6,.int .u32 (f:Int),.int .u64 (th:Int),strV u] _ (range_rowf Rb6.out) Tryd.underlying46 rfl (by kernel_rfl) ?_
      refine wpList_unguard (by go_simp) ?_
      refine wpList_plain rfl (fun K hK=>?_);go_simp
      refine (xp_ref ((l,(a,(t,(k,((bp,vp),(sc - (j:Int),(zc,((gp,⟨o1,C1⟩,[]),((gn,⟨o2,C2⟩,[]),(f,(es,((bm,vm),((bg,vg),th))))))))))))),u) ((l,(a,(t,(k,((bp,vp),(sc - (j:Int),(zc,((gp,⟨o1,C1⟩,[]),((gn,⟨o2,C2⟩,[]),(f,(es,((bm,vm),((bg,vg),th))))))))))))),u) [.slice lo5 l.length lc5,.int .u64 (a:Int),.int .u64 (t:Int),.int .u64 (k:Int),.bool bp,.int .u64 (vp:Int),.bool bm,.int .u64 (vm:Int),.bool bg,.int .u64 (vg:Int),.int .i32 (sc - (j:Int)),.int .u64 (zc:Int),.bool gp,.int .i32 o1,.slice po5 C1.length pc5,strV [],.bool gn,.int .i32 o2,.slice no5 C2.length nc5,strV [],.slice eo5 es.length ec5,.int .u32 (f:Int),.int .u64 (th:Int),strV u] [.slice lo6 l.length lc6,.int .u64 (a:Int),.int .u64 (t:Int),.int .u64 (k:Int),.bool bp,.int .u64 (vp:Int),.bool bm,.int .u64 (vm:Int),.bool bg,.int .u64 (vg:Int),.int .i32 (sc - (j:Int)),.int .u64 (zc:Int),.bool gp,.int .i32 o1,.slice po6 C1.length pc6,strV [],.bool gn,.int .i32 o2,.slice no6 C2.length nc6,strV [],.slice eo6 es.length ec6,.int .u32 (f:Int),.int .u64 (th:Int),strV u] _ _ v13 HYA.out HYW.out HY.out HZ.out).mono ?_
      rw[alike_self]
      rintro E v14 ⟨rfl,hb⟩
      replace HB:=Lib.hid (below_step HB.out hb)
      replace Rb1:=Lib.hid ((hb.block _ (row_lt Rb1.out)).trans Rb1.out)
      replace Rb5:=Lib.hid ((hb.block _ (row_lt Rb5.out)).trans Rb5.out)
      replace Rb6:=Lib.hid ((hb.block _ (row_lt Rb6.out)).trans Rb6.out)
      replace Rb7:=Lib.hid ((hb.block _ (row_lt Rb7.out)).trans Rb7.out)
      replace HG:=Lib.hid (hg.out.below HB.out)
      replace HEW:=Lib.hid (HE0.out.below HB.out)
      replace HY:=Lib.hid (xpCel.upd (Upd.of_new (S:=fun _=>False) hb) (fun _ _ h=>h) (fun _ h=>h) HY.out)
      clear hb HZ
      go_simp
      refine hK _ _ ?_;clear hK K
      have y13:v14.cell? ⟨b5,13,none⟩=some (.int .i32 o1):=row_cell Rb5.out (j:=13) rfl
      have y14:v14.cell? ⟨b5,14,none⟩=some (.slice po5 C1.length pc5):=row_cell Rb5.out (j:=14) rfl
      have y15:v14.cell? ⟨b5,15,none⟩=some (strV []):=row_cell Rb5.out (j:=15) rfl
      have y18:v14.cell? ⟨b5,18,none⟩=some (.slice no5 C2.length nc5):=row_cell Rb5.out (j:=18) rfl
      iterate 20 (refine wpList_step fun K hK=>?_;go_simp;refine hK _ _ ?_;clear hK K)
      refine wpList_unguard (by go_simp) ?_
      refine wpList_plain rfl (fun K hK=>?_);go_simp
      obtain ⟨lo5q,lc5q,po5q,pc5q,no5q,nc5q,eo5q,ec5q,hq,hk,hp,hn,he⟩:=HY.out
      simp only[List.cons.injEq,Value.slice.injEq,and_true,true_and] at hq
      obtain ⟨⟨rfl,rfl⟩,⟨rfl,rfl⟩,⟨rfl,rfl⟩,rfl,rfl⟩:=hq
      refine (tight_any o1 C1 po5 pc5 ⟨#[]⟩ v14 HTG.out.1 (by have:=HCL.out;omega) (Lib.hid (nats_of_rels hp))).mono ?_
      rintro E v15 ⟨rfl,hb⟩
      clear hk hp hn he
      replace HB:=Lib.hid (below_step HB.out hb)
      replace Rb1:=Lib.hid ((hb.block _ (row_lt Rb1.out)).trans Rb1.out)
      replace Rb5:=Lib.hid ((hb.block _ (row_lt Rb5.out)).trans Rb5.out)
      replace Rb6:=Lib.hid ((hb.block _ (row_lt Rb6.out)).trans Rb6.out)
      replace Rb7:=Lib.hid ((hb.block _ (row_lt Rb7.out)).trans Rb7.out)
      replace HG:=Lib.hid (hg.out.below HB.out)
      replace HEW:=Lib.hid (HE0.out.below HB.out)
      replace HY:=Lib.hid (xpCel.upd (Upd.of_new (S:=fun _=>False) hb) (fun _ _ h=>h) (fun _ h=>h) HY.out)
      clear hb y13 y14 y15 y18
      go_simp
      refine hK _ _ ?_;clear hK K
      have y17:v15.cell? ⟨b5,17,none⟩=some (.int .i32 o2):=row_cell Rb5.out (j:=17) rfl
      have y18:v15.cell? ⟨b5,18,none⟩=some (.slice no5 C2.length nc5):=row_cell Rb5.out (j:=18) rfl
      have y19:v15.cell? ⟨b5,19,none⟩=some (strV []):=row_cell Rb5.out (j:=19) rfl
      iterate 4 (refine wpList_step fun K hK=>?_;go_simp;refine hK _ _ ?_;clear hK K)
      refine wpList_unguard (by go_simp) ?_
      refine wpList_plain rfl (fun K hK=>?_);go_simp
      obtain ⟨lo5q,lc5q,po5q,pc5q,no5q,nc5q,eo5q,ec5q,hq,hk,hp,hn,he⟩:=HY.out
      simp only[List.cons.injEq,Value.slice.injEq,and_true,true_and] at hq
      obtain ⟨⟨rfl,rfl⟩,⟨rfl,rfl⟩,⟨rfl,rfl⟩,rfl,rfl⟩:=hq
      refine (tight_any o2 C2 no5 nc5 ⟨#[]⟩ v15 HTG.out.2 (by have:=HCL.out;omega) (Lib.hid (nats_of_rels hn))).mono ?_
      rintro E v16 ⟨rfl,hb⟩
      clear hk hp hn he
      replace HB:=Lib.hid (below_step HB.out hb)
      replace Rb1:=Lib.hid ((hb.block _ (row_lt Rb1.out)).trans Rb1.out)
      replace Rb5:=Lib.hid ((hb.block _ (row_lt Rb5.out)).trans Rb5.out)
      replace Rb6:=Lib.hid ((hb.block _ (row_lt Rb6.out)).trans Rb6.out)
      replace Rb7:=Lib.hid ((hb.block _ (row_lt Rb7.out)).trans Rb7.out)
      replace HG:=Lib.hid (hg.out.below HB.out)
      replace HEW:=Lib.hid (HE0.out.below HB.out)
      replace HY:=Lib.hid (xpCel.upd (Upd.of_new (S:=fun _=>False) hb) (fun _ _ h=>h) (fun _ h=>h) HY.out)
      clear hb y17 y18 y19
      go_simp
      refine hK _ _ ?_;clear hK K
      have y10:v16.cell? ⟨b5,10,none⟩=some (.int .i32 (sc - (j:Int))):=row_cell Rb5.out (j:=10) rfl
      have y3:v16.cell? ⟨b5,3,none⟩=some (.int .u64 (k:Int)):=row_cell Rb5.out (j:=3) rfl
      have y1:v16.cell? ⟨b5,1,none⟩=some (.int .u64 (a:Int)):=row_cell Rb5.out (j:=1) rfl
      have x10:v16.cell? ⟨b1,10,none⟩=some (.int .i32 sc):=row_cell Rb1.out (j:=10) rfl
      have x3:v16.cell? ⟨b1,3,none⟩=some (.int .u64 (k:Int)):=row_cell Rb1.out (j:=3) rfl
      have x1:v16.cell? ⟨b1,1,none⟩=some (.int .u64 (a:Int)):=row_cell Rb1.out (j:=1) rfl
      have z10:v16.cell? ⟨b7,10,none⟩=some (.int .i32 (sc - (j:Int) - (j3:Int))):=row_cell Rb7.out (j:=10) rfl
      have dws:decide (sc - (j:Int) - (j3:Int)≤sc - (j:Int))=true:=decide_eq_true (by omega)
      iterate 34 (refine wpList_step fun K hK=>?_;go_simp;refine hK _ _ ?_;clear hK K)
      go_wp2_with fail
      go_ret
      exact ⟨rfl,HB.out⟩
end Go.Proofs.YtcblkndiclkacaaDoor
