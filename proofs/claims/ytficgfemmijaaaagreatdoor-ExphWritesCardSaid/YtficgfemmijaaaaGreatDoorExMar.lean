/-
  XpSide, ExMar
-/
import Derived.Test.YtficgfemmijaaaaGreatDoorExRoom
import Derived.Test.YtficgfemmijaaaaGreatDoorXpBack
import Derived.Test.YtficgfemmijaaaaGreatDoorNumsW
import Derived.Test.YtficgfemmijaaaaGreatDoorBukRef
import Derived.Test.YtficgfemmijaaaaGreatDoorExPart
import Derived.Test.YtficgfemmijaaaaGreatDoorPackR
import Derived.Test.YtficgfemmijaaaaGreatDoorPartK
import Derived.Test.YtficgfemmijaaaaGreatDoorJoinLaid
set_option maxRecDepth 1000000
set_option maxHeartbeats 16000000
namespace Go.Proofs.YtficgfemmijaaaaGreatDoor
open Go.RowKit
open Lib (hid)
theorem extakes_any (r:Rec)(w:World):Calls Tryz.prog 113 #[.int .i64 r.num,.int .i64 r.ty] w fun e w'=>e = .returned (.bool (exF.tk r))∧w=w':=by
  obtain ⟨num,ty,n,s,raw⟩:=r;have hq:=exF_tk ⟨num,ty,n,s,raw⟩;dsimp only at hq;obtain ⟨q,hqe⟩:∃ q,exF.tk ⟨num,ty,n,s,raw⟩=q:=⟨_,rfl⟩
  rw[hqe] at hq ⊢;clear hqe
  by_cases h2:num=2
  · subst h2
    have hb:Hid (q=((ty:Int) == (1:Int))):=hid (by rw[show ((1:Int))=((1:Nat):Int) from rfl,ibeq,hq];exact decide_eq_decide.2 (by omega));clear hq;go_enter Tryz.func113,Tryz.ntmps113;go_wp2_with fail;go_ret;exact ⟨by rw[hb.out];rfl,rfl⟩
  by_cases h6:num=6
  · subst h6
    have hb:Hid (q=((ty:Int) == (1:Int))):=hid (by rw[show ((1:Int))=((1:Nat):Int) from rfl,ibeq,hq];exact decide_eq_decide.2 (by omega));clear hq;go_enter Tryz.func113,Tryz.ntmps113;go_wp2_with fail;go_ret;exact ⟨by rw[hb.out];rfl,rfl⟩
  by_cases h3:num=3
  · subst h3
    have hb:Hid (q=((ty:Int) == (1:Int))):=hid (by rw[show ((1:Int))=((1:Nat):Int) from rfl,ibeq,hq];exact decide_eq_decide.2 (by omega));clear hq;go_enter Tryz.func113,Tryz.ntmps113;go_wp2_with fail;go_ret;exact ⟨by rw[hb.out];rfl,rfl⟩
  by_cases h4:num=4
  · subst h4
    have hb:Hid (q=((ty:Int) == (2:Int))):=hid (by rw[show ((2:Int))=((2:Nat):Int) from rfl,ibeq,hq];exact decide_eq_decide.2 (by omega));clear hq;go_enter Tryz.func113,Tryz.ntmps113;go_wp2_with fail;go_ret;exact ⟨by rw[hb.out];rfl,rfl⟩
  by_cases h5:num=5
  · subst h5
    have hb:Hid (q=((ty:Int) == (2:Int))):=hid (by rw[show ((2:Int))=((2:Nat):Int) from rfl,ibeq,hq];exact decide_eq_decide.2 (by omega));clear hq;go_enter Tryz.func113,Tryz.ntmps113;go_wp2_with fail;go_ret;exact ⟨by rw[hb.out];rfl,rfl⟩
  by_cases h7:num=7
  · subst h7
    have hb:Hid (q=((ty:Int) == (2:Int))):=hid (by rw[show ((2:Int))=((2:Nat):Int) from rfl,ibeq,hq];exact decide_eq_decide.2 (by omega));clear hq;go_enter Tryz.func113,Tryz.ntmps113;go_wp2_with fail;go_ret;exact ⟨by rw[hb.out];rfl,rfl⟩
  have d2:((num:Int) == (2:Int))=false:=by rw[beq_eq_false_iff_ne];omega
  have d6:((num:Int) == (6:Int))=false:=by rw[beq_eq_false_iff_ne];omega
  have d3:((num:Int) == (3:Int))=false:=by rw[beq_eq_false_iff_ne];omega
  have d4:((num:Int) == (4:Int))=false:=by rw[beq_eq_false_iff_ne];omega
  have d5:((num:Int) == (5:Int))=false:=by rw[beq_eq_false_iff_ne];omega
  have d7:((num:Int) == (7:Int))=false:=by rw[beq_eq_false_iff_ne];omega
  have hb:Hid (q=false):=hid (by rw[hq];exact decide_eq_false (by omega));clear h2 h6 h3 h4 h5 h7 hq;go_enter Tryz.func113,Tryz.ntmps113;go_wp2_with fail;go_ret;exact ⟨by rw[hb.out];rfl,rfl⟩
open Go.RowKit
def XpRel (w:World)(P:Nat→Prop):Xp→List Value→Prop
  | ((l,(a,(t,(k,((bp,vp),(sc,(zc,((gp,pb,pu),((gn,nb,nu),(f,(es,((bm,vm),((bg,vg),th))))))))))))),u),cs=>∃ (lo:Option Addr) (lc:Nat) (po:Option Addr) (pc:Nat) (no:Option Addr) (nc:Nat) (eo:Option Addr) (ec:Nat),cs=[.slice lo l.length lc,.int .u64 a,.int .u64 t,.int .u64 k,.bool bp,.int .u64 vp,.bool bm,.int .u64 vm,.bool bg,.int .u64 vg,.int .i32 sc,.int .u64 zc,.bool gp,.int .i32 pb.off,.slice po pb.cs.length pc,strV pu,.bool gn,.int .i32 nb.off,.slice no nb.cs.length nc,strV nu,.slice eo es.length ec,.int .u32 f,.int .u64 th,strV u]∧KRels w P l lo 0∧CRels natCel w P pb.cs po∧CRels natCel w P nb.cs no∧CRels exCel w P es eo
def xpCel:Cel Xp where
  R:=XpRel
  size:=24
  len:=by rintro w P ⟨⟨l,⟨a,⟨t,⟨k,⟨⟨bp,vp⟩,⟨sc,⟨zc,⟨⟨gp,pb,pu⟩,⟨⟨gn,nb,nu⟩,⟨f,⟨es,⟨⟨bm,vm⟩,⟨⟨bg,vg⟩,th⟩⟩⟩⟩⟩⟩⟩⟩⟩⟩⟩⟩⟩,u⟩ cs ⟨lo,lc,po,pc,no,nc,eo,ec,rfl,_,_,_,_⟩;rfl
  upd:=by rintro w w' S P Q ⟨⟨l,⟨a,⟨t,⟨k,⟨⟨bp,vp⟩,⟨sc,⟨zc,⟨⟨gp,pb,pu⟩,⟨⟨gn,nb,nu⟩,⟨f,⟨es,⟨⟨bm,vm⟩,⟨⟨bg,vg⟩,th⟩⟩⟩⟩⟩⟩⟩⟩⟩⟩⟩⟩⟩,u⟩ cs hu hs hq ⟨lo,lc,po,pc,no,nc,eo,ec,h,h0,h1,h2,h3⟩;exact ⟨lo,lc,po,pc,no,nc,eo,ec,h,KRels.upd hu hs hq _ _ _ h0,CRels.upd hu hs hq h1,CRels.upd hu hs hq h2,CRels.upd hu hs hq h3⟩
  lt:=by rintro w P ⟨⟨l,⟨a,⟨t,⟨k,⟨⟨bp,vp⟩,⟨sc,⟨zc,⟨⟨gp,pb,pu⟩,⟨⟨gn,nb,nu⟩,⟨f,⟨es,⟨⟨bm,vm⟩,⟨⟨bg,vg⟩,th⟩⟩⟩⟩⟩⟩⟩⟩⟩⟩⟩⟩⟩,u⟩ cs ⟨lo,lc,po,pc,no,nc,eo,ec,h,h0,h1,h2,h3⟩;exact ⟨lo,lc,po,pc,no,nc,eo,ec,h,KRels.lt _ _ _ h0,CRels.lt h1,CRels.lt h2,CRels.lt h3⟩
open Go.RowKit
theorem row3q {w:World}{g:Nat}{c0 c1 c2:Value}{T:TypeId}{fr:Nat × Nat}(h:w.heap[g]? = some (.cells #[c0,c1,c2] T fr)):w.cell? ⟨g,0,none⟩=some c0∧w.cell? ⟨g,1,none⟩=some c1∧w.cell? ⟨g,2,none⟩=some c2:=⟨row_cell h (j:=0) rfl,row_cell h (j:=1) rfl,row_cell h (j:=2) rfl⟩
theorem partbk_any (p:Nat)(d d1:Int)(ps:List (List UInt8))(hs:List Hole)(b:Bool)(P:Nat→Prop)(w:World)(num F:Nat)(may:Bool)(t:List UInt8)(cs:List Value)(hform:∃ (jo:Int) (po:Option Addr) (lpo pc:Nat) (Xu:ByteArray),cs=[.int .i32 jo,.slice po lpo pc,.string Xu])(hw:Hid (WrH p d ps hs b P w))(hET:∀ args w,(callFunc F args).run Tryz.prog w = .ok (.enter F args) w)(hM:Hid (∀ w',Below w.heap.size w w'→Calls Tryz.prog F #[.agg cs.toArray,.int .i64 d1] w' (MarPost may t w')))(hd1:IntKind.i64.wrap (d - 1)=d1)(hnum:1≤num∧num≤536870911)(ht:t.length≤1000000)(hl:ps.length≤1000000)(hf:ps.flatten.length+t.length≤9000000) :
    Calls Tryz.prog 108 #[.pointer (some ⟨p,0,none⟩),.int .i64 num,.agg cs.toArray,.func (.func F) #[] #[]] w (WvPost p d ps hs b P w may (rB num t).raw 1 (20+t.length)):=by
  obtain ⟨jo,po,lpo,pc,Xu,rfl⟩:=hform;obtain ⟨W0,hW0⟩:∃ W0,w.alloc (.cells #[.int .i32 jo,.slice po lpo pc,.string Xu] 29)=W0:=⟨_,rfl⟩
  obtain ⟨bx,hbx⟩:∃ bx,w.heap.size=bx:=⟨_,rfl⟩
  have HB0:Hid (Below w.heap.size w W0):=hid (by rw[←hW0];exact below_new _ _);have HX0:Hid (W0.heap[bx]? = some (.cells #[.int .i32 jo,.slice po lpo pc,.string Xu] 29 (0,0))):=hid (by rw[←hW0,←hbx];exact heap_alloc_new _ _);have HSO:=hid ((WSo.start hw.out).below HB0.out);obtain ⟨vp,L,vo,ev,hrow,hev⟩:=wrh_row (wh_below hw.out HB0.out);have HW0:=hid hW0;have HBX:=hid hbx
  have hpx:p≠bx:=by
    obtain ⟨_,_,_,_,h,_⟩:=wrh_row hw.out;have:=row_lt h;omega
  have k4:W0.cell? ⟨p,4,none⟩=some ev:=row_cell hrow (j:=4) rfl;have HROW:=hid hrow
  cases b with
  | true =>
    obtain ⟨T',y,rfl⟩:=hev.yes.iface;rw[←hW0] at k4;clear hev hrow hW0 hbx hd1;go_enter Tryz.func108,Tryz.ntmps108;go_wp2_with fail
    go_end0
    rw[HW0.out];have h1:=(HSO.out.done.le (l2:=1) (f2:=20+t.length) (by omega) (by omega)).conv (m2:=may) (t2:=(rB num t).raw) (fun h=>by cases h) (fun h=>by cases h);exact h1
  | false =>
    obtain rfl:=hev.no;clear hev hrow;have HM:=hid (fun w' hb=>hM.out w' (below_step HB0.out hb));rw[←hW0] at k4;clear hW0 hbx;go_enter Tryz.func108,Tryz.ntmps108;go_wp2_with fail;go_upto_region 2 with fail
    all_goals
      rw[HW0.out,HBX.out];obtain ⟨D,hD⟩:∃ D,W0.drew=D:=⟨_,rfl⟩
      have hB:Below W0.heap.size W0 D:=by rw[←hD];exact (Below.refl _ _).drew
      have hS:R2 bx #[.int .i32 jo,.slice po lpo pc,.string Xu] 29 p #[.int .i64 d,vp,L,vo,.nilIface] 167 D:=⟨(hB.block _ (row_lt HX0.out)).trans HX0.out,(hB.block _ (row_lt HROW.out)).trans HROW.out⟩
      have hne:Nonempty {w':World // R2 bx #[.int .i32 jo,.slice po lpo pc,.string Xu] 29 p #[.int .i64 d,vp,L,vo,.nilIface] 167 w'}:=⟨⟨_,hS⟩⟩
      refine wp_region_seq (S:=R2 bx #[.int .i32 jo,.slice po lpo pc,.string Xu] 29 p #[.int .i64 d,vp,L,vo,.nilIface] 167) [(0,true),(1,true),(2,true),(3,true),(4,true),(5,true),(6,true),(7,false),(8,true),(9,true),(10,true),(11,true),(12,true)] (by kernel_rfl) (by kernel_rfl) (by kernel_rfl) (by kernel_rfl) (by rw[hD];exact hS) ?_;rw[hD]
      (refine seq_take _ rfl (fun KC hK=>?_);go_simp;(first|refine hK _ ?_|refine ⟨_,fun _ _=>rfl,hK _ ?_⟩);clear hK KC)
      refine seq_take _ rfl (fun KC hK=>?_);go_simp;refine ⟨.agg #[.int .i32 jo,.slice po lpo pc,.string Xu],fun a ha=>by obtain ⟨p0,p1,p2⟩:=row3q ha.1;simp only[p0,p1,p2,Result.andThen],hK _ ?_⟩;clear hK KC
      iterate 3 (refine seq_take _ rfl (fun KC hK=>?_);go_simp;(first|refine hK _ ?_|refine ⟨_,fun _ _=>rfl,hK _ ?_⟩);clear hK KC)
      refine seq_take _ rfl (fun KC hK=>?_);go_simp;refine ⟨.int .i64 d,fun a ha=>by rw[row_cell ha.2 (j:=0) rfl];rfl,hK _ ?_⟩;clear hK KC
      (refine seq_take _ rfl (fun KC hK=>?_);go_simp;(first|refine hK _ ?_|refine ⟨_,fun _ _=>rfl,hK _ ?_⟩);clear hK KC)
      refine seq_come _ rfl (fun KC hK=>?_);go_simp;refine (HM.out D hB).mono ?_;rintro e w1 ⟨hb1,hcase⟩;have hS1:=hS.below hb1;have HSO1:=hid (HSO.out.below (below_step hB hb1))
      cases may with
      | true =>
        rw[if_pos rfl] at hcase;subst hcase;go_simp;refine hK.out _ _ hS1 ?_;clear hK KC
        iterate 5 (refine seq_take _ rfl (fun KC hK=>?_);go_simp;(first|refine hK _ ?_|refine ⟨_,fun _ _=>rfl,hK _ ?_⟩);clear hK KC)
        refine seq_done ?_;clear hne hS hS1;go_wp2_with fail;refine (bytes_rB num ⟨t.toArray⟩ hnum.1 hnum.2 (by simp[ByteArray.size];omega) w1).mono ?_;rintro e w2 ⟨rfl,hb2⟩;have HSO2:=hid (HSO1.out.below hb2);have hr20:=rB_len20 num t;go_wp2_with fail;have hwr:=HSO2.out.wr;have hput:=wv_put (rB num t).raw hwr (by rw[List.length_append];have:=HSO2.out.len;omega) (by rw[List.flatten_append,List.length_append];have:=HSO2.out.size;omega);refine hput.mono ?_;intro e w3 hpost;obtain ⟨qs2,P2,rfl,hso⟩:=HSO2.out.next hpost;have HF:=hid hso;clear hpost hput hwr hso;go_wp2_with fail
        go_end0
        exact HF.out.done.le (by omega) (by omega)
      | false =>
        rw[if_neg (by simp)] at hcase;obtain ⟨v,rfl,hec⟩:=hcase;obtain ⟨T',y,rfl⟩:=hec.iface;have HEC:=hid hec;clear hec;go_simp;refine hK.out _ _ hS1 ?_;clear hK KC
        iterate 5 (refine seq_take _ rfl (fun KC hK=>?_);go_simp;(first|refine hK _ ?_|refine ⟨_,fun _ _=>rfl,hK _ ?_⟩);clear hK KC)
        refine seq_done ?_;clear hne hS hS1;go_wp2_with fail;refine (in_any _ _ _ _).mono ?_;rintro e w2 ⟨rfl,rfl⟩;have HEF:=hid (ec_field (n:=(num:Int)) HEC.out);have HSO2:=hid (HSO1.out.below (below_new w1 (.cells #[.int .i64 num,.iface T' y] 133)));go_wp2_with fail;have hlift:=wv_lift (F:=106) (args:=#[.pointer (some ⟨p,0,none⟩),.iface 131 (.pointer (some ⟨w1.heap.size,0,none⟩))]) (g:=false) (ts:=[]) HSO2.out.wr (fun vo P0 h1=>by rw[Bool.not_false,Bool.or_true,wps_nil];exact wfail_any p d vo _ _ P0 _ _ _ (hid h1) HEF);refine hlift.mono ?_;intro e w3 hpost;obtain ⟨qs2,P2,rfl,hso⟩:=HSO2.out.next hpost;have HF:=hid hso;clear hpost hlift hso;go_wp2_with fail
        go_end0
        exact (HF.out.done.le (l2:=1) (f2:=20+t.length) (by simp) (by simp)).conv (m2:=false) (t2:=(rB num t).raw) (fun _=>rfl) (fun _ h=>by cases h)
theorem mar_of {x:Bk}{u:List UInt8}{d:Int}{w:World}{e:Ending}{w':World}(h:MBPost x u d w e w'):MarPost (bmay u d) (bput x u) w e w':=by
  obtain ⟨hb,h⟩:=h;refine ⟨hb,?_⟩
  rcases h with ⟨h1,h2⟩|⟨h1,h2⟩
  · rw[h1,if_pos rfl];exact h2
  · rw[h1,if_neg (by simp)];exact h2
theorem bkz_dec (x:Bk)(u:List UInt8):decide (x.off=(⟨0,[]⟩:Bk).off∧u=[]∧x.cs=(⟨0,[]⟩:Bk).cs)=bkz (x,u):=by
  have h:=bkz_iff (x,u)
  cases hb:bkz (x,u) with
  | true =>
    have e:=h.1 hb
    simp only[Prod.mk.injEq] at e
    obtain ⟨rfl,rfl⟩:=e
    rfl
  | false =>
    refine decide_eq_false fun e=>?_
    have:bkz (x,u)=true:=h.2 (by
      obtain ⟨o,cs⟩:=x;obtain ⟨e1,e2,e3⟩:=e;dsimp only at e1 e3;rw[e1,e2,e3])
    rw[hb] at this
    cases this
theorem putside_any (p:Nat)(d:Int)(ps:List (List UInt8))(hs:List Hole)(b:Bool)(P Q:Nat→Prop)(w:World)(num:Nat)(g:Bool)(x:Bk)(u:List UInt8)(ao:Option Addr)(cap:Nat)(X:ByteArray)(hw:WrH p d ps hs b P w)(hX:Hid (X=⟨u.toArray⟩))(hx:BkOk x)(hr:CRels natCel w Q x.cs ao)(hl1:x.cs.length≤100000)(hu:u.length≤400000)(hbd:b=true∨0≤d)(hd:-9223372036854775808≤d∧d≤9223372036854775807)(hnum:1≤num∧num≤536870911)(ht:(bput x u).length≤1000000)(hl:ps.length≤1000000)(hf:ps.flatten.length+(bput x u).length≤9000000) :
    Calls Tryz.prog 56 #[.pointer (some ⟨p,0,none⟩),.int .i64 num,.bool g,.agg #[.int .i32 x.off,.slice ao x.cs.length cap,.string X]] w (WvPost p d ps hs b P w (if g=true then decide (1≤d)&&bmay u (d - 1) else bkz (x,u)) (if g=true then (rB num (bput x u)).raw else []) 1 (20+(bput x u).length)):=by
  obtain ⟨d1,hd1⟩:∃ d1,IntKind.i64.wrap (d - 1)=d1:=⟨_,rfl⟩
  have HD1:Hid (0≤d→d1=d - 1):=hid (fun h=>by rw[←hd1,IntWalk.i64_in _ (by omega)]);have HE:=enters_of Tryz.func19 (by kernel_rfl) rfl;obtain ⟨W0,hW0⟩:∃ W0,w.alloc (.cells #[.int .i32 x.off,.slice ao x.cs.length cap,.string X] 29)=W0:=⟨_,rfl⟩
  obtain ⟨bx,hbx⟩:∃ bx,w.heap.size=bx:=⟨_,rfl⟩
  have hb0:Below w.heap.size w W0:=by rw[←hW0];exact below_new _ _
  have HB0:=hid hb0;have HX0:Hid (W0.heap[bx]? = some (.cells #[.int .i32 x.off,.slice ao x.cs.length cap,.string X] 29 (0,0))):=hid (by rw[←hW0,←hbx];exact heap_alloc_new _ _);have HN:Hid (∀ w',Below w.heap.size w w'→Nats .u64 w' ao x.cs):=hid (fun w' hb=>nats_of_rels (hr.below hb));have HM:Hid (∀ w',Below W0.heap.size W0 w'→Calls Tryz.prog 19 #[.agg #[.int .i32 x.off,.slice ao x.cs.length cap,.string X],.int .i64 d1] w' (MarPost (bmay u d1) (bput x u) w')):=hid (fun w' hb=>(mb_any x u ao cap X d1 w' (hid hx) (hid (HN.out w' (below_step hb0 hb))) hl1 (by omega) hX).mono fun e w'' h=>mar_of h);have HP:=partbk_any p d d1 ps hs b P W0 num 19 (bmay u d1) (bput x u) [.int .i32 x.off,.slice ao x.cs.length cap,.string X] ⟨_,_,_,_,_,rfl⟩ (hid (wh_below hw hb0)) HE HM hd1 hnum ht hl hf;have HPP:=hid HP;have HWH:=hid (wh_below hw hb0);have HBD:=hid hbd;obtain ⟨t,hbt⟩:∃ t,bput x u=t:=⟨_,rfl⟩
  rw[hbt] at HPP ⊢;have HLX:=hid hl1;have HNW:=hid (HN.out W0 hb0);have hZ:=bkz_dec x u;obtain ⟨z,hz⟩:∃ z,bkz (x,u)=z:=⟨_,rfl⟩
  rw[hz] at hZ ⊢;have HZ:=hid hZ;have HW0:=hid hW0;have HBX:=hid hbx;have hc0:W0.cell? ⟨bx,0,none⟩=some (.int .i32 x.off):=row_cell HX0.out (j:=0) rfl;have hc1:W0.cell? ⟨bx,1,none⟩=some (.slice ao x.cs.length cap):=row_cell HX0.out (j:=1) rfl;have hc2:W0.cell? ⟨bx,2,none⟩=some (.string X):=row_cell HX0.out (j:=2) rfl;clear hW0 hbx HP hx hr hl1 hu hbd hd ht hl hf hw hb0 HE HM HN hd1 hbt hZ hz
  cases g with
  | true =>
    go_enter Tryz.func56,Tryz.ntmps56;go_upto_region 1 with fail
    rw[HW0.out,HBX.out];go_wp2_with fail;refine HPP.out.mono ?_;intro e w1 hpost;obtain ⟨qs,⟨rfl,g1,g2⟩,g3,g4,g5⟩:=hpost;go_wp2_with fail
    go_end0
    have h1:WvPost p d ps hs b P W0 (bmay u d1) (rB num t).raw 1 (20+t.length) (.returned (.tuple #[])) w1:=⟨qs,⟨rfl,g1,g2⟩,g3,g4,g5⟩
    refine WvPost.below HB0.out (h1.conv (fun hb=>?_) (fun _ _=>?_))
    · (try rw[if_pos rfl])
      have hd0:0≤d:=by rcases HBD.out with h|h;(rw[hb] at h;cases h);exact h
      rw[HD1.out hd0]
      by_cases h:1≤d
      · rw[decide_eq_true h];rfl
      · rw[decide_eq_false h]
        unfold bmay;rw[decide_eq_false (by omega)];rfl
    · first|rfl|rw[if_pos rfl]
  | false =>
    go_enter Tryz.func56,Tryz.ntmps56;go_upto_region 1 with fail
    rw[HW0.out,HBX.out];go_wp2_with fail;rw[hX.out];have hs:=sameB_any x ⟨0,[]⟩ u [] ao none cap 0 W0 HNW (hid (fun h=>absurd rfl h)) (by have:=HLX.out;omega) HZ;refine hs.mono ?_;rintro e w1 ⟨rfl,hb1⟩;have HB1:=hid hb1;clear hs hb1;go_wp2_with fail;refine (wv_ask z (wh_below HWH.out HB1.out)).mono ?_;intro e w2 hpost;obtain ⟨qs,⟨rfl,g1,g2⟩,g3,g4,g5⟩:=hpost;go_wp2_with fail
    go_end0
    have h1:WvPost p d ps hs b P w1 z [] 0 0 (.returned (.tuple #[])) w2:=⟨qs,⟨rfl,g1,g2⟩,g3,g4,g5⟩
    refine WvPost.below (below_step HB0.out HB1.out) ((h1.le (by omega) (by omega)).conv (fun _=>?_) (fun _ _=>?_))
    · first|rfl|rw[if_neg (by simp)]
    · first|rfl|rw[if_neg (by simp)]
open Go.RowKit
theorem ex_marshal_if (x:Ex)(hM:Hid (x.1.2.2≠[]→KMar))(cs:List Value)(Q:Nat→Prop)(d:Int)(w:World)(hf:ex_fit x)(hr:exCel.R w Q x cs)(hd:-9223372036854775808≤d∧d≤9223372036854775807) :
  Calls Tryz.prog 58 #[.agg cs.toArray,.int .i64 d] w (MarPost (ex_may d x) (ex_out x) w):=by
 obtain ⟨⟨t,⟨⟨⟨k,n⟩,⟨a,b⟩⟩,l⟩⟩,u⟩:=x;obtain ⟨lo,lc,rfl,hr⟩:=hr;have HR:=hid (KRels.lt _ _ _ hr);have HD:=hid hd;obtain ⟨hnt,hnn,hfl,hw⟩:=hf;have HFK:=hid hw;have HNT:=hid hnt;have HNN:=hid hnn;have HFL:=hid hfl;obtain ⟨Xa,hXa⟩:∃ U:ByteArray,(⟨a.toArray⟩:ByteArray)=U:=⟨_,rfl⟩
 obtain ⟨Xb,hXb⟩:∃ U:ByteArray,(⟨b.toArray⟩:ByteArray)=U:=⟨_,rfl⟩
 obtain ⟨Xu,hXu⟩:∃ U:ByteArray,(⟨u.toArray⟩:ByteArray)=U:=⟨_,rfl⟩
 have HXa:Hid (Xa.data.toList=a):=hid (by rw[←hXa]);have HXb:Hid (Xb.data.toList=b):=hid (by rw[←hXb]);have HU:=hid hXu;dsimp only[strV];rw[hXa,hXb,hXu];obtain ⟨mx,hmx⟩:∃ m,ex_may d ((t,(((k,n),(a,b)),l)),u)=m:=⟨_,rfl⟩
 obtain ⟨ox,hox⟩:∃ m,ex_out ((t,(((k,n),(a,b)),l)),u)=m:=⟨_,rfl⟩
 rw[hmx,hox];have HMX:=hid hmx;have HOX:=hid hox;obtain ⟨W0,hW0⟩:∃ W,w.alloc (.cells #[.slice lo l.length lc,.int .u64 t,.int .i64 k,.int .u64 n,.string Xa,.string Xb,.string Xu] 84)=W:=⟨_,rfl⟩
 obtain ⟨bx,hbx⟩:∃ bx,w.heap.size=bx:=⟨_,rfl⟩
 have HB0:Hid (Below w.heap.size w W0):=hid (by rw[←hW0];exact below_new _ _);have HX0:Hid (W0.heap[bx]? = some (.cells #[.slice lo l.length lc,.int .u64 t,.int .i64 k,.int .u64 n,.string Xa,.string Xb,.string Xu] 84 (0,0))):=hid (by rw[←hW0,←hbx];exact heap_alloc_new _ _);have HW0:=hid hW0;have HBX:=hid hbx;have HET:=hid (enters_of Tryz.func113 (by kernel_rfl) rfl);clear hW0 hbx hr hd hmx hox hXa hXb hXu hnt hnn hfl hw;go_enter Tryz.func58,Tryz.ntmps58;go_wp2_with fail;rw[HW0.out,HBX.out];refine (wmnew_any d W0).mono ?_;rintro e wz ⟨rfl,hb1,P1,hw1,hp1⟩;obtain ⟨p,hp⟩:∃ p,W0.heap.size=p:=⟨_,rfl⟩
 have hpp:bx<p:=by rw[←hp];exact row_lt HX0.out
 rw[hp] at hw1 hb1 hp1 ⊢;have HB1:Hid (Below p W0 wz):=hid hb1;have HP1:Hid (∀ k,P1 k→p≤k):=hid hp1;have HPE:=hid hp;have HS:=hid (WSx.start (wh_new hw1) (Below.refl _ _) ((hb1.block _ hpp).trans HX0.out) (fun h=>by have:=hp1 bx h;omega));have HR1:Hid (KRels wz (fun k=>Q k∧k<w.heap.size) l lo 0):=hid (KRels.upd (Upd.of_new (S:=fun _=>False) (HB0.out.trans (hb1.mono (by have:=HB0.out.size;omega)))) (fun _ _ h=>h) (fun _ h=>h) l lo 0 HR.out);have HQ1:Hid (∀ k,Q k∧k<w.heap.size→k<p∧k<wz.heap.size):=hid (fun k hk=>by have:=HB0.out.size;have:=hb1.size;omega);clear hb1 hw1 hp1 hp;have xc:wz.cell? ⟨bx,2,none⟩=some (.int .i64 k):=HS.out.cell rfl;have xn:wz.cell? ⟨bx,3,none⟩=some (.int .u64 n):=HS.out.cell rfl;go_wp2_with fail;refine (wv_kind k n (hid HS.out.so.wr)).mono ?_;intro e wz hpost;obtain ⟨qs2,P2,rfl,hs⟩:=HS.out.next hpost;have HSN:=hid hs;clear hpost hs HS xc xn;have HS:=HSN;clear HSN;have xc:wz.cell? ⟨bx,1,none⟩=some (.int .u64 t):=HS.out.cell rfl;go_wp2_with fail;refine (wv_num 2 t HS.out.so.wr HNT.out (by omega) (by omega) (by have:=HS.out.so.len;have:=HFK.out;simp only[List.nil_append];omega) (by have:=HS.out.so.size;have:=HFK.out;simp only[List.nil_append];omega)).mono ?_;intro e wz hpost;obtain ⟨qs2,P2,rfl,hs⟩:=HS.out.next hpost;have HSN:=hid hs;clear hpost hs HS xc;have HS:=HSN;clear HSN
 have hkk:((k == 1)=true∧(k == 2)=false)∨((k == 1)=false∧(k == 2)=true)∨((k == 1)=false∧(k == 2)=false):=by
   by_cases h1:k=1
   · subst h1;left;exact ⟨rfl,rfl⟩
   · by_cases h2:k=2
     · subst h2;right;left;exact ⟨rfl,rfl⟩
     · right;right;exact ⟨beq_eq_false_iff_ne.2 h1,beq_eq_false_iff_ne.2 h2⟩
 rcases hkk with ⟨c1,c2⟩|⟨c1,c2⟩|⟨c1,c2⟩
 all_goals
  have xc:wz.cell? ⟨bx,2,none⟩=some (.int .i64 k):=HS.out.cell rfl;have xn:wz.cell? ⟨bx,3,none⟩=some (.int .u64 n):=HS.out.cell rfl;have xd:wz.cell? ⟨bx,4,none⟩=some (.string Xa):=HS.out.cell rfl;go_wp2_with fail
  first
  | (go_at_call 105
     refine (wfixed_any 3 n _ (by omega) (by omega) HNN.out).mono ?_;rintro e wz ⟨rfl,hbz⟩;rw[show wrec 3 1 (eight 8 n)=(rF 3 n).raw from rF_wrec (num:=3) (by omega) (by omega) n];have HSN:=hid (HS.out.below hbz);clear hbz HS xc xn xd;have HS:=HSN;clear HSN;go_wp2_with fail;refine ((wv_put (rF 3 n).raw HS.out.so.wr (by have:=HS.out.so.len;have:=HFK.out;simp only[List.nil_append];omega) (by have:=rF_len20 3 n;have:=HS.out.so.size;have:=HFK.out;simp only[List.nil_append];omega)).mono (fun _ _ h=>wv_if (k=1) (eq_of_beq c1) (h.le (Nat.le_refl _) (rF_len20 3 n)))).mono ?_;intro e wz hpost;obtain ⟨qs2,P2,rfl,hs⟩:=HS.out.next hpost;have HSN:=hid hs;clear hpost hs HS;have HS:=HSN;clear HSN)
  | (have HSN:=hid (HS.out.skip (k=1) (fun h=>by rw[h] at c1;simp at c1) (rF 3 n).raw 20)
     clear HS xc xn xd;have HS:=HSN;clear HSN)
  have xc:wz.cell? ⟨bx,4,none⟩=some (.string Xa):=HS.out.cell rfl
  try go_wp2_with fail
  refine (wv_bytes 4 Xa a HS.out.so.wr HXa.out (by omega) (by omega) (by have:=HFK.out;omega) (by have:=HS.out.so.len;have:=HFK.out;simp only[List.nil_append];omega) (by have:=HS.out.so.size;have:=HFK.out;simp only[List.nil_append];omega)).mono ?_;intro e wz hpost;obtain ⟨qs2,P2,rfl,hs⟩:=HS.out.next hpost;have HSN:=hid hs;clear hpost hs HS xc;have HS:=HSN;clear HSN;have xc:wz.cell? ⟨bx,5,none⟩=some (.string Xb):=HS.out.cell rfl;go_wp2_with fail;refine (wv_bytes 5 Xb b HS.out.so.wr HXb.out (by omega) (by omega) (by have:=HFK.out;omega) (by have:=HS.out.so.len;have:=HFK.out;simp only[List.nil_append];omega) (by have:=HS.out.so.size;have:=HFK.out;simp only[List.nil_append];omega)).mono ?_;intro e wz hpost;obtain ⟨qs2,P2,rfl,hs⟩:=HS.out.next hpost;have HSN:=hid hs;clear hpost hs HS xc;have HS:=HSN;clear HSN;have xc:wz.cell? ⟨bx,2,none⟩=some (.int .i64 k):=HS.out.cell rfl;have xn:wz.cell? ⟨bx,3,none⟩=some (.int .u64 n):=HS.out.cell rfl;have xd:wz.cell? ⟨bx,0,none⟩=some (.slice lo l.length lc):=HS.out.cell rfl;go_wp2_with fail
  first
  | (go_at_call 105
     refine (wfixed_any 6 n _ (by omega) (by omega) HNN.out).mono ?_;rintro e wz ⟨rfl,hbz⟩;rw[show wrec 6 1 (eight 8 n)=(rF 6 n).raw from rF_wrec (num:=6) (by omega) (by omega) n];have HSN:=hid (HS.out.below hbz);clear hbz HS xc xn xd;have HS:=HSN;clear HSN;go_wp2_with fail;refine ((wv_put (rF 6 n).raw HS.out.so.wr (by have:=HS.out.so.len;have:=HFK.out;simp only[List.nil_append];omega) (by have:=rF_len20 6 n;have:=HS.out.so.size;have:=HFK.out;simp only[List.nil_append];omega)).mono (fun _ _ h=>wv_if (k=2) (eq_of_beq c2) (h.le (Nat.le_refl _) (rF_len20 6 n)))).mono ?_;intro e wz hpost;obtain ⟨qs2,P2,rfl,hs⟩:=HS.out.next hpost;have HSN:=hid hs;clear hpost hs HS;have HS:=HSN;clear HSN)
  | (have HSN:=hid (HS.out.skip (k=2) (fun h=>by rw[h] at c2;simp at c2) (rF 6 n).raw 20)
     clear HS xc xn xd;have HS:=HSN;clear HSN)
  have xc:wz.cell? ⟨bx,0,none⟩=some (.slice lo l.length lc):=HS.out.cell rfl
  try go_wp2_with fail
  refine (listk_if l hM p d _ [] _ _ (fun k=>Q k∧k<w.heap.size) wz 7 lo lc HFL.out (KRels.upd HS.out.so.upd (fun k hk h=>by have:=HP1.out k h;have:=HQ1.out k hk;omega) (fun _ h=>h) l lo 0 HR1.out) (fun k hk h=>by have:=HQ1.out k hk;rcases HS.out.so.new k h with h|h;(have:=HP1.out k h;omega);omega) HS.out.so.wr (by by_cases h:d<0;(left;simp[h]);(right;omega)) HD.out (by omega) ⟨by have:=HS.out.so.len;have:=HFK.out;simp only[List.nil_append];omega,by have:=HS.out.so.size;have:=HFK.out;simp only[List.nil_append];omega,by have:=HFK.out;omega⟩).mono ?_;intro e wz hpost;obtain ⟨qs2,P2,rfl,hs⟩:=HS.out.next hpost;have HSN:=hid hs;clear hpost hs HS xc;have HS:=HSN;clear HSN;have xc:wz.cell? ⟨bx,6,none⟩=some (.string Xu):=HS.out.cell rfl;go_wp2_with fail;refine (wv_rest Xu u exF.tk 113 HS.out.so.wr HU.out.symm (by have:=HFK.out;omega) (by have:=HS.out.so.len;have:=HFK.out;simp only[List.nil_append];omega) (by have:=HS.out.so.size;have:=HFK.out;simp only[List.nil_append];omega) HET.out (fun r w=>extakes_any r w)).mono ?_;intro e wz hpost;obtain ⟨qs2,P2,rfl,hs⟩:=HS.out.next hpost;have HSN:=hid hs;clear hpost hs HS xc;have HS:=HSN;clear HSN;go_wp2_with fail;obtain ⟨vo,P0,hwa,_⟩:=HS.out.so.wr;have HWA:=hid hwa;have HLB:=hid (And.intro HS.out.so.len HS.out.so.size);clear hwa;refine (wend_any p d vo _ _ P0 _ HWA (by have:=HLB.out.1;simp only[List.nil_append];(have:=HFK.out;omega)) (by have:=HLB.out.2;simp only[List.nil_append];(have:=HFK.out;omega))).mono ?_;rintro e w9 ⟨hb9,hcase⟩;have HB9:=hid (mar_below HB0.out HPE.out HB1.out HS.out.so.upd HP1.out hb9);have HBY:=hid HS.out.so.bytes;obtain ⟨bb,hbb⟩:∃ bb,(decide (d<0)||!((((((((true&&decide (k=0∧n=0∨k=1∨k=2))&&true)&&true)&&true)&&true)&&true)&&kmays l d)&&munkOk exF.tk u d))=bb:=⟨_,rfl⟩
  rw[hbb] at hcase HBY
  have HBB:Hid (mx=!bb):=hid (by
    rw[←HMX.out,←hbb]
    show (decide (0≤d)&&((decide (k=0∧n=0∨k=1∨k=2)&&kmays l d)&&munkOk exF.tk u d))=_
    by_cases h:d<0
    · rw[decide_eq_true h,decide_eq_false (by omega:¬0≤d)];rfl
    · rw[decide_eq_false h,decide_eq_true (by omega:0≤d)]
      simp only[Bool.true_and,Bool.and_true,Bool.false_or,Bool.not_not,Bool.and_assoc])
  clear hb9 hbb
  cases bb with
  | true =>
    rw[if_pos rfl] at hcase;obtain ⟨v,rfl,hec⟩:=hcase;obtain ⟨T',y,rfl⟩:=hec.iface;have HEC:=hid hec;clear hec;go_wp2_with fail
    go_ret2
    refine ⟨HB9.out,?_⟩;rw[HBB.out,if_neg (by simp)];exact ⟨_,rfl,HEC.out⟩
  | false =>
    rw[if_neg (by simp)] at hcase;subst hcase;have hq9:=HBY.out rfl;rw[List.nil_append,hq9]
    have hoe:([]++[]++(if t=0 then [] else (rF 2 t).raw)++(if k=1 then (rF 3 n).raw else [])++(if a=[] then [] else (rB 4 a).raw)++(if b=[] then [] else (rB 5 b).raw)++(if k=2 then (rF 6 n).raw else [])++kouts 7 l++u:List UInt8)=ox:=by
      rw[←HOX.out]
      show _=(if t=0 then [] else (rF 2 t).raw)++(if k=1 then (rF 3 n).raw else [])++(if a=[] then [] else (rB 4 a).raw)++(if b=[] then [] else (rB 5 b).raw)++(if k=2 then (rF 6 n).raw else [])++kouts 7 l++u
      simp only[List.nil_append]
    rw[hoe];clear hoe hq9;go_wp2_with fail
    go_ret2
    refine ⟨HB9.out,?_⟩;rw[HBB.out,if_pos (show (!false)=true from rfl)]
    rfl
open Go.RowKit
end Go.Proofs.YtficgfemmijaaaaGreatDoor
