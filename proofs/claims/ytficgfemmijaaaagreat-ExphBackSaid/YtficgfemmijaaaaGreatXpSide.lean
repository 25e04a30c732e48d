/-
  XpRel, XpSide
-/
import Derived.Test.YtficgfemmijaaaaGreatExMar
import Derived.Test.YtficgfemmijaaaaGreatValMar
import Derived.Test.YtficgfemmijaaaaGreatXpBack
import Derived.Test.YtficgfemmijaaaaGreatNumsK
import Derived.Test.YtficgfemmijaaaaGreatBukRef
import Derived.Test.YtficgfemmijaaaaGreatExPart
set_option maxRecDepth 1000000
set_option maxHeartbeats 16000000
namespace Go.Proofs.YtficgfemmijaaaaGreat
open Go.RowKit
open Lib (hid)
theorem ex_marshal (x:Ex)(cs:List Value)(Q:Nat→Prop)(d:Int)(w:World)(hf:ex_fit x)(hr:exCel.R w Q x cs)(hd:-9223372036854775808≤d∧d≤9223372036854775807) :
  Calls Tryz.prog 35 #[.agg cs.toArray,.int .i64 d] w (MarPost (ex_may d x) (ex_out x) w):=ex_marshal_if x (hid fun _=>kmar_any) cs Q d w hf hr hd
open Go.RowKit
def XpRel (w:World)(P:Nat→Prop):Xp→List Value→Prop
 | ((l,(a,(t,(k,((bp,vp),(sc,(zc,((gp,pb,pu),((gn,nb,nu),(f,(es,((bm,vm),((bg,vg),th))))))))))))),u),cs=>∃ (lo:Option Addr) (lc:Nat) (po:Option Addr) (pc:Nat) (no:Option Addr) (nc:Nat) (eo:Option Addr) (ec:Nat),cs=[.slice lo l.length lc,.int .u64 a,.int .u64 t,.int .u64 k,.bool bp,.int .u64 vp,.bool bm,.int .u64 vm,.bool bg,.int .u64 vg,.int .i32 sc,.int .u64 zc,.bool gp,.int .i32 pb.off,.slice po pb.cs.length pc,strV pu,.bool gn,.int .i32 nb.off,.slice no nb.cs.length nc,strV nu,.slice eo es.length ec,.int .u32 f,.int .u64 th,strV u]∧KRels w P l lo 0∧CRels natCel w P pb.cs po∧CRels natCel w P nb.cs no∧CRels exCel w P es eo
def xpCel:Cel Xp where
 R:=XpRel
 size:=24
 len:=by rintro w P ⟨⟨l,⟨a,⟨t,⟨k,⟨⟨bp,vp⟩,⟨sc,⟨zc,⟨⟨gp,pb,pu⟩,⟨⟨gn,nb,nu⟩,⟨f,⟨es,⟨⟨bm,vm⟩,⟨⟨bg,vg⟩,th⟩⟩⟩⟩⟩⟩⟩⟩⟩⟩⟩⟩⟩,u⟩ cs ⟨lo,lc,po,pc,no,nc,eo,ec,rfl,_,_,_,_⟩;rfl
 upd:=by rintro w w' S P Q ⟨⟨l,⟨a,⟨t,⟨k,⟨⟨bp,vp⟩,⟨sc,⟨zc,⟨⟨gp,pb,pu⟩,⟨⟨gn,nb,nu⟩,⟨f,⟨es,⟨⟨bm,vm⟩,⟨⟨bg,vg⟩,th⟩⟩⟩⟩⟩⟩⟩⟩⟩⟩⟩⟩⟩,u⟩ cs hu hs hq ⟨lo,lc,po,pc,no,nc,eo,ec,h,h0,h1,h2,h3⟩;exact ⟨lo,lc,po,pc,no,nc,eo,ec,h,KRels.upd hu hs hq _ _ _ h0,CRels.upd hu hs hq h1,CRels.upd hu hs hq h2,CRels.upd hu hs hq h3⟩
 lt:=by rintro w P ⟨⟨l,⟨a,⟨t,⟨k,⟨⟨bp,vp⟩,⟨sc,⟨zc,⟨⟨gp,pb,pu⟩,⟨⟨gn,nb,nu⟩,⟨f,⟨es,⟨⟨bm,vm⟩,⟨⟨bg,vg⟩,th⟩⟩⟩⟩⟩⟩⟩⟩⟩⟩⟩⟩⟩,u⟩ cs ⟨lo,lc,po,pc,no,nc,eo,ec,h,h0,h1,h2,h3⟩;exact ⟨lo,lc,po,pc,no,nc,eo,ec,h,KRels.lt _ _ _ h0,CRels.lt h1,CRels.lt h2,CRels.lt h3⟩
def xpzero:Array Value:=#[.slice none 0 0,.int .u64 0,.int .u64 0,.int .u64 0,.bool false,.int .u64 0,.bool false,.int .u64 0,.bool false,.int .u64 0,.int .i32 0,.int .u64 0,.bool false,.int .i32 0,.slice none 0 0,.string ⟨#[]⟩,.bool false,.int .i32 0,.slice none 0 0,.string ⟨#[]⟩,.slice none 0 0,.int .u32 0,.int .u64 0,.string ⟨#[]⟩]
open Go.RowKit
theorem row3q {w:World}{g:Nat}{c0 c1 c2:Value}{T:TypeId}{fr:Nat × Nat}(h:w.heap[g]? = some (.cells #[c0,c1,c2] T fr)):w.cell? ⟨g,0,none⟩=some c0∧w.cell? ⟨g,1,none⟩=some c1∧w.cell? ⟨g,2,none⟩=some c2:=⟨row_cell h (j:=0) rfl,row_cell h (j:=1) rfl,row_cell h (j:=2) rfl⟩
theorem partbk_any (p:Nat)(d d1:Int)(ps:List (List UInt8))(hs:List Hole)(b:Bool)(P:Nat→Prop)(w:World)(num F:Nat)(may:Bool)(t:List UInt8)(cs:List Value)(hform:∃ (jo:Int) (po:Option Addr) (lpo pc:Nat) (Xu:ByteArray),cs=[.int .i32 jo,.slice po lpo pc,.string Xu])(hw:Hid (WrH p d ps hs b P w))(hET:∀ args w,(callFunc F args).run Tryz.prog w = .ok (.enter F args) w)(hM:Hid (∀ w',Below w.heap.size w w'→Calls Tryz.prog F #[.agg cs.toArray,.int .i64 d1] w' (MarPost may t w')))(hd1:IntKind.i64.wrap (d - 1)=d1)(hnum:1≤num∧num≤536870911)(ht:t.length≤1000000)(hl:ps.length≤1000000)(hf:ps.flatten.length+t.length≤9000000) :
  Calls Tryz.prog 61 #[.pointer (some ⟨p,0,none⟩),.int .i64 num,.agg cs.toArray,.func (.func F) #[] #[]] w (WvPost p d ps hs b P w may (rB num t).raw 1 (20+t.length)):=by
 obtain ⟨jo,po,lpo,pc,Xu,rfl⟩:=hform;obtain ⟨W0,hW0⟩:∃ W0,w.alloc (.cells #[.int .i32 jo,.slice po lpo pc,.string Xu] 28)=W0:=⟨_,rfl⟩
 obtain ⟨bx,hbx⟩:∃ bx,w.heap.size=bx:=⟨_,rfl⟩
 have HB0:Hid (Below w.heap.size w W0):=hid (by rw[←hW0];exact below_new _ _);have HX0:Hid (W0.heap[bx]? = some (.cells #[.int .i32 jo,.slice po lpo pc,.string Xu] 28 (0,0))):=hid (by rw[←hW0,←hbx];exact heap_alloc_new _ _);have HSO:=hid ((WSo.start hw.out).below HB0.out);obtain ⟨vp,L,vo,ev,hrow,hev⟩:=wrh_row (wh_below hw.out HB0.out);have HW0:=hid hW0;have HBX:=hid hbx
 have hpx:p≠bx:=by
  obtain ⟨_,_,_,_,h,_⟩:=wrh_row hw.out;have:=row_lt h;omega
 have k4:W0.cell? ⟨p,4,none⟩=some ev:=row_cell hrow (j:=4) rfl;have HROW:=hid hrow
 cases b with
 | true =>
  obtain ⟨T',y,rfl⟩:=hev.yes.iface;rw[←hW0] at k4;clear hev hrow hW0 hbx hd1;go_enter Tryz.func61,Tryz.ntmps61;go_wp2_with fail
  go_end0
  rw[HW0.out];have h1:=(HSO.out.done.le (l2:=1) (f2:=20+t.length) (by omega) (by omega)).conv (m2:=may) (t2:=(rB num t).raw) (fun h=>by cases h) (fun h=>by cases h);exact h1
 | false =>
  obtain rfl:=hev.no;clear hev hrow;have HM:=hid (fun w' hb=>hM.out w' (below_step HB0.out hb));rw[←hW0] at k4;clear hW0 hbx;go_enter Tryz.func61,Tryz.ntmps61;go_wp2_with fail;go_upto_region 2 with fail
  all_goals
   rw[HW0.out,HBX.out];obtain ⟨D,hD⟩:∃ D,W0.drew=D:=⟨_,rfl⟩
   have hB:Below W0.heap.size W0 D:=by rw[←hD];exact (Below.refl _ _).drew
   have hS:R2 bx #[.int .i32 jo,.slice po lpo pc,.string Xu] 28 p #[.int .i64 d,vp,L,vo,.nilIface] 97 D:=⟨(hB.block _ (row_lt HX0.out)).trans HX0.out,(hB.block _ (row_lt HROW.out)).trans HROW.out⟩
   have hne:Nonempty {w':World // R2 bx #[.int .i32 jo,.slice po lpo pc,.string Xu] 28 p #[.int .i64 d,vp,L,vo,.nilIface] 97 w'}:=⟨⟨_,hS⟩⟩
   refine wp_region_seq (S:=R2 bx #[.int .i32 jo,.slice po lpo pc,.string Xu] 28 p #[.int .i64 d,vp,L,vo,.nilIface] 97) [(0,true),(1,true),(2,true),(3,true),(4,true),(5,true),(6,true),(7,false),(8,true),(9,true),(10,true),(11,true),(12,true)] (by kernel_rfl) (by kernel_rfl) (by kernel_rfl) (by kernel_rfl) (by rw[hD];exact hS) ?_;rw[hD]
   (refine seq_take _ rfl (fun KC hK=>?_);go_simp;(first|refine hK _ ?_|refine ⟨_,fun _ _=>rfl,hK _ ?_⟩);clear hK KC)
   refine seq_take _ rfl (fun KC hK=>?_);go_simp;refine ⟨.agg #[.int .i32 jo,.slice po lpo pc,.string Xu],fun a ha=>by obtain ⟨p0,p1,p2⟩:=row3q ha.1;simp only[p0,p1,p2,Result.andThen],hK _ ?_⟩;clear hK KC
   iterate 3 (refine seq_take _ rfl (fun KC hK=>?_);go_simp;(first|refine hK _ ?_|refine ⟨_,fun _ _=>rfl,hK _ ?_⟩);clear hK KC)
   refine seq_take _ rfl (fun KC hK=>?_);go_simp;refine ⟨.int .i64 d,fun a ha=>by rw[row_cell ha.2 (j:=0) rfl];rfl,hK _ ?_⟩;clear hK KC
   (refine seq_take _ rfl (fun KC hK=>?_);go_simp;(first|refine hK _ ?_|refine ⟨_,fun _ _=>rfl,hK _ ?_⟩);clear hK KC)
   refine seq_come _ rfl (fun KC hK=>?_);go_simp;refine (HM.out D hB).mono ?_;rintro e w1 ⟨hb1,hcase⟩;have hS1:=hS.below hb1;have HSO1:=hid (HSO.out.below (below_step hB hb1))
   cases may with
   | true =>
    rw[if_pos rfl] at hcase;subst hcase;go_simp;refine hK.out _ _ hS1 ?_;clear hK KC
    iterate 5 (refine seq_take _ rfl (fun KC hK=>?_);go_simp;(first|refine hK _ ?_|refine ⟨_,fun _ _=>rfl,hK _ ?_⟩);clear hK KC)
    refine seq_done ?_;clear hne hS hS1;go_wp2_with fail;refine (bytes_rB num ⟨t.toArray⟩ hnum.1 hnum.2 (by simp[ByteArray.size];omega) w1).mono ?_;rintro e w2 ⟨rfl,hb2⟩;have HSO2:=hid (HSO1.out.below hb2);have hr20:=rB_len20 num t;go_wp2_with fail;have hwr:=HSO2.out.wr;have hput:=wv_put (rB num t).raw hwr (by rw[List.length_append];have:=HSO2.out.len;omega) (by rw[List.flatten_append,List.length_append];have:=HSO2.out.size;omega);refine hput.mono ?_;intro e w3 hpost;obtain ⟨qs2,P2,rfl,hso⟩:=HSO2.out.next hpost;have HF:=hid hso;clear hpost hput hwr hso;go_wp2_with fail
    go_end0
    exact HF.out.done.le (by omega) (by omega)
   | false =>
    rw[if_neg (by simp)] at hcase;obtain ⟨v,rfl,hec⟩:=hcase;obtain ⟨T',y,rfl⟩:=hec.iface;have HEC:=hid hec;clear hec;go_simp;refine hK.out _ _ hS1 ?_;clear hK KC
    iterate 5 (refine seq_take _ rfl (fun KC hK=>?_);go_simp;(first|refine hK _ ?_|refine ⟨_,fun _ _=>rfl,hK _ ?_⟩);clear hK KC)
    refine seq_done ?_;clear hne hS hS1;go_wp2_with fail;refine (in_any _ _ _ _).mono ?_;rintro e w2 ⟨rfl,rfl⟩;have HEF:=hid (ec_field (n:=(num:Int)) HEC.out);have HSO2:=hid (HSO1.out.below (below_new w1 (.cells #[.int .i64 num,.iface T' y] 116)));go_wp2_with fail;have hlift:=wv_lift (F:=59) (args:=#[.pointer (some ⟨p,0,none⟩),.iface 114 (.pointer (some ⟨w1.heap.size,0,none⟩))]) (g:=false) (ts:=[]) HSO2.out.wr (fun vo P0 h1=>by rw[Bool.not_false,Bool.or_true,wps_nil];exact wfail_any p d vo _ _ P0 _ _ _ (hid h1) HEF);refine hlift.mono ?_;intro e w3 hpost;obtain ⟨qs2,P2,rfl,hso⟩:=HSO2.out.next hpost;have HF:=hid hso;clear hpost hlift hso;go_wp2_with fail
    go_end0
    exact (HF.out.done.le (l2:=1) (f2:=20+t.length) (by simp) (by simp)).conv (m2:=false) (t2:=(rB num t).raw) (fun _=>rfl) (fun _ h=>by cases h)
theorem mar_of {x:Bk}{u:List UInt8}{d:Int}{w:World}{e:Ending}{w':World}(h:MBPost x u d w e w'):MarPost (bmay u d) (bput x u) w e w':=by
 obtain ⟨hb,h⟩:=h;refine ⟨hb,?_⟩
 rcases h with ⟨h1,h2⟩|⟨h1,h2⟩
 ·rw[h1,if_pos rfl];exact h2
 ·rw[h1,if_neg (by simp)];exact h2
theorem bkz_dec (x:Bk)(u:List UInt8):decide (x.off=(⟨0,[]⟩:Bk).off∧u=[]∧x.cs=(⟨0,[]⟩:Bk).cs)=bkz (x,u):=by
 have h:=bkz_iff (x,u)
 cases hb:bkz (x,u) with
 | true =>
  have e:=h.1 hb
  simp only[Prod.mk.injEq] at e
  obtain ⟨rfl,rfl⟩:=e
  rfl
 | false =>
  refine decide_eq_false fun e=>?_
  have:bkz (x,u)=true:=h.2 (by
   obtain ⟨o,cs⟩:=x;obtain ⟨e1,e2,e3⟩:=e;dsimp only at e1 e3;rw[e1,e2,e3])
  rw[hb] at this
  cases this
theorem putside_any (p:Nat)(d:Int)(ps:List (List UInt8))(hs:List Hole)(b:Bool)(P Q:Nat→Prop)(w:World)(num:Nat)(g:Bool)(x:Bk)(u:List UInt8)(ao:Option Addr)(cap:Nat)(X:ByteArray)(hw:WrH p d ps hs b P w)(hX:Hid (X=⟨u.toArray⟩))(hx:BkOk x)(hr:CRels natCel w Q x.cs ao)(hl1:x.cs.length≤100000)(hu:u.length≤400000)(hbd:b=true∨0≤d)(hd:-9223372036854775808≤d∧d≤9223372036854775807)(hnum:1≤num∧num≤536870911)(ht:(bput x u).length≤1000000)(hl:ps.length≤1000000)(hf:ps.flatten.length+(bput x u).length≤9000000) :
  Calls Tryz.prog 33 #[.pointer (some ⟨p,0,none⟩),.int .i64 num,.bool g,.agg #[.int .i32 x.off,.slice ao x.cs.length cap,.string X]] w (WvPost p d ps hs b P w (if g=true then decide (1≤d)&&bmay u (d - 1) else bkz (x,u)) (if g=true then (rB num (bput x u)).raw else []) 1 (20+(bput x u).length)):=by
 obtain ⟨d1,hd1⟩:∃ d1,IntKind.i64.wrap (d - 1)=d1:=⟨_,rfl⟩
 have HD1:Hid (0≤d→d1=d - 1):=hid (fun h=>by rw[←hd1,IntWalk.i64_in _ (by omega)]);have HE:=enters_of Tryz.func13 (by kernel_rfl) rfl;obtain ⟨W0,hW0⟩:∃ W0,w.alloc (.cells #[.int .i32 x.off,.slice ao x.cs.length cap,.string X] 28)=W0:=⟨_,rfl⟩
 obtain ⟨bx,hbx⟩:∃ bx,w.heap.size=bx:=⟨_,rfl⟩
 have hb0:Below w.heap.size w W0:=by rw[←hW0];exact below_new _ _
 have HB0:=hid hb0;have HX0:Hid (W0.heap[bx]? = some (.cells #[.int .i32 x.off,.slice ao x.cs.length cap,.string X] 28 (0,0))):=hid (by rw[←hW0,←hbx];exact heap_alloc_new _ _);have HN:Hid (∀ w',Below w.heap.size w w'→Nats .u64 w' ao x.cs):=hid (fun w' hb=>nats_of_rels (hr.below hb));have HM:Hid (∀ w',Below W0.heap.size W0 w'→Calls Tryz.prog 13 #[.agg #[.int .i32 x.off,.slice ao x.cs.length cap,.string X],.int .i64 d1] w' (MarPost (bmay u d1) (bput x u) w')):=hid (fun w' hb=>(mb_any x u ao cap X d1 w' (hid hx) (hid (HN.out w' (below_step hb0 hb))) hl1 (by omega) hX).mono fun e w'' h=>mar_of h);have HP:=partbk_any p d d1 ps hs b P W0 num 13 (bmay u d1) (bput x u) [.int .i32 x.off,.slice ao x.cs.length cap,.string X] ⟨_,_,_,_,_,rfl⟩ (hid (wh_below hw hb0)) HE HM hd1 hnum ht hl hf;have HPP:=hid HP;have HWH:=hid (wh_below hw hb0);have HBD:=hid hbd;obtain ⟨t,hbt⟩:∃ t,bput x u=t:=⟨_,rfl⟩
 rw[hbt] at HPP ⊢;have HLX:=hid hl1;have HNW:=hid (HN.out W0 hb0);have hZ:=bkz_dec x u;obtain ⟨z,hz⟩:∃ z,bkz (x,u)=z:=⟨_,rfl⟩
 rw[hz] at hZ ⊢;have HZ:=hid hZ;have HW0:=hid hW0;have HBX:=hid hbx;have hc0:W0.cell? ⟨bx,0,none⟩=some (.int .i32 x.off):=row_cell HX0.out (j:=0) rfl;have hc1:W0.cell? ⟨bx,1,none⟩=some (.slice ao x.cs.length cap):=row_cell HX0.out (j:=1) rfl;have hc2:W0.cell? ⟨bx,2,none⟩=some (.string X):=row_cell HX0.out (j:=2) rfl;clear hW0 hbx HP hx hr hl1 hu hbd hd ht hl hf hw hb0 HE HM HN hd1 hbt hZ hz
 cases g with
 | true =>
  go_enter Tryz.func33,Tryz.ntmps33;go_upto_region 1 with fail
  rw[HW0.out,HBX.out];go_wp2_with fail;refine HPP.out.mono ?_;intro e w1 hpost;obtain ⟨qs,⟨rfl,g1,g2⟩,g3,g4,g5⟩:=hpost;go_wp2_with fail
  go_end0
  have h1:WvPost p d ps hs b P W0 (bmay u d1) (rB num t).raw 1 (20+t.length) (.returned (.tuple #[])) w1:=⟨qs,⟨rfl,g1,g2⟩,g3,g4,g5⟩
  refine WvPost.below HB0.out (h1.conv (fun hb=>?_) (fun _ _=>?_))
  ·(try rw[if_pos rfl])
   have hd0:0≤d:=by rcases HBD.out with h|h;(rw[hb] at h;cases h);exact h
   rw[HD1.out hd0]
   by_cases h:1≤d
   ·rw[decide_eq_true h];rfl
   ·rw[decide_eq_false h]
    unfold bmay;rw[decide_eq_false (by omega)];rfl
  ·first|rfl|rw[if_pos rfl]
 | false =>
  go_enter Tryz.func33,Tryz.ntmps33;go_upto_region 1 with fail
  rw[HW0.out,HBX.out];go_wp2_with fail;rw[hX.out];have hs:=sameB_any x ⟨0,[]⟩ u [] ao none cap 0 W0 HNW (hid (fun h=>absurd rfl h)) (by have:=HLX.out;omega) HZ;refine hs.mono ?_;rintro e w1 ⟨rfl,hb1⟩;have HB1:=hid hb1;clear hs hb1;go_wp2_with fail;refine (wv_ask z (wh_below HWH.out HB1.out)).mono ?_;intro e w2 hpost;obtain ⟨qs,⟨rfl,g1,g2⟩,g3,g4,g5⟩:=hpost;go_wp2_with fail
  go_end0
  have h1:WvPost p d ps hs b P w1 z [] 0 0 (.returned (.tuple #[])) w2:=⟨qs,⟨rfl,g1,g2⟩,g3,g4,g5⟩
  refine WvPost.below (below_step HB0.out HB1.out) ((h1.le (by omega) (by omega)).conv (fun _=>?_) (fun _ _=>?_))
  ·first|rfl|rw[if_neg (by simp)]
  ·first|rfl|rw[if_neg (by simp)]
end Go.Proofs.YtficgfemmijaaaaGreat
