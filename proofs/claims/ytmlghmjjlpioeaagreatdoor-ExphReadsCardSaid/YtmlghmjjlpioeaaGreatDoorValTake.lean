/-
  message.Parts: Add, Has, Bytes.
-/
import Derived.Test.YtmlghmjjlpioeaaGreatDoorMsgRead
import Derived.Test.YtmlghmjjlpioeaaGreatDoorVal
import Derived.Deep.Cut
import Derived.IntWalk
import Derived.Deep.MidRow
set_option maxRecDepth 1000000
set_option maxHeartbeats 16000000
namespace Go.Proofs.YtmlghmjjlpioeaaGreatDoor
open Go.RowKit
open Lib (hid)
theorem Qn {cs:Array Value}{T:TypeId}(b o:Nat)(v:Value)(ps:List (List UInt8))(B:Nat)(t:List UInt8)(w:World)(hrow:Hid (w.heap[b]?=some (.cells cs T (0,0))))(hcs:cs[o]?=some v)(hown:Hid (w.ownsRow B 9 1 v ps.length (ps.map strV)))(hbB:b<B)(hB:B<=w.heap.size)(hl:ps.length<=1000000) :
  Calls Tryz.prog 59 #[.pointer (some ⟨b,o,none⟩),strV t] w fun e w'=>e=.returned (.tuple #[])/\Upd (fun k=>k=b∨v.ownBlock=some k) w w'/\∃v',w'.heap[b]?=some (.cells (cs.setIfInBounds o v') T (0,0))/\w'.ownsRow B 9 1 v' (ps++[t]).length ((ps++[t]).map strV)/\∀k,v'.ownBlock=some k->v.ownBlock=some k∨w.heap.size<=k:=by
 obtain⟨X,hX⟩:∃X:ByteArray,(⟨t.toArray⟩:ByteArray)=X:=⟨_,rfl⟩
 have HX:=hid hX;obtain⟨ao,cap,rfl⟩:=zh hown.out;have hcb:w.cell? ⟨b,o,none⟩=some (.slice ao ps.length cap):=za hrow.out (j:=o) hcs;have hbw:=z8 hrow.out;unfold strV;rw[hX];clear hX;go_enter Tryz.func59,Tryz.ntmps59;go_wp2_with (at_builtin;refine xw (c:=1) (cs:=[.string X]) rfl _ _ 70 rfl Tryz.elStrM (by decide) hown.out rfl (by show Value.slice (some ⟨w.heap.size,0,none⟩) 1 1=_;simp) rfl (by simp[Value.oneCell']) (by unfold maxLen;omega) (by omega) (by omega) ?_;intro g' cap' w2 hown2 hgrow hng;have HR2:Hid (w2.heap[b]?=some (.cells cs T (0,0))):=hid ((hgrow.block _ hbw (fun e=>by have h7:=(hown.out.lt _ e.symm).1;omega)).trans hrow.out);have hc1':w2.cell? ⟨b,o,none⟩=some (.slice ao ps.length cap):=za HR2.out (j:=o) hcs;have hfz1:w2.frozen? ⟨b,o,none⟩=false:=z7 HR2.out o)
 go_end0
 have hgu:Upd (fun k=>(Value.slice ao ps.length cap).ownBlock=some k) w w2:=Upd.of_grown hgrow;have hu1:=Upd.set w2 ⟨b,o,none⟩ (.slice (some ⟨g',0,none⟩) (ps.length+1) cap');refine⟨rfl,(hgu.mono fun k _ h => .inr h).trans (hu1.mono fun k _ h => .inl h),.slice (some ⟨g',0,none⟩) (ps.length+1) cap',ze HR2.out o _,?_,fun k hk=>?_⟩
 ·have h9:=hu1.own hown2 (fun k hk e=>by have e:k=b:=e;have:=(hown2.lt k hk).1;omega)
  rw[List.length_append,List.map_append,List.map_cons,List.map_nil];rw[HX.out];exact h9
 ·have hk':g'=k:=by simpa [Value.ownBlock] using hk
  subst hk';exact hng
theorem Y3 {cs:Array Value}{T:TypeId}(b o:Nat)(ao:Option Addr)(n cap:Nat)(w:World)(hrow:Hid (w.heap[b]?=some (.cells cs T (0,0))))(hcs:cs[o]?=some (.slice ao n cap)) :
  Calls Tryz.prog 63 #[.pointer (some ⟨b,o,none⟩)] w fun e w'=>e=.returned (.bool (decide (0<n)))/\w=w':=by
 have hcb:w.cell? ⟨b,o,none⟩=some (.slice ao n cap):=za hrow.out (j:=o) hcs;go_enter Tryz.func63,Tryz.ntmps63;go_wp2_with fail;go_ret;exact⟨rfl,rfl⟩
theorem Zj {cs:Array Value}{T:TypeId}(b o:Nat)(v:Value)(ps:List (List UInt8))(B:Nat)(w:World)(hrow:Hid (w.heap[b]?=some (.cells cs T (0,0))))(hcs:cs[o]?=some v)(hown:Hid (w.ownsRow B 9 1 v ps.length (ps.map strV)))(hl:ps.length<=1000000)(hf:ps.flatten.length<=10000000) :
  Calls Tryz.prog 64 #[.pointer (some ⟨b,o,none⟩)] w fun e w'=>e=.returned (.string ⟨ps.flatten.toArray⟩)/\Below w.heap.size w w':=by
 obtain⟨ao,cap,rfl⟩:=zh hown.out;have hcb:w.cell? ⟨b,o,none⟩=some (.slice ao ps.length cap):=za hrow.out (j:=o) hcs
 have hcap:ps.length<=cap:=by
  rcases Nat.eq_zero_or_pos ps.length with h|h
  ·omega
  ·obtain⟨_,cg,hv,_,_,h9,_⟩:=yj hown.out h
   simp only[Value.slice.injEq]at hv
   omega
 have HS:=hid (J5 hown.out);go_enter Tryz.func64,Tryz.ntmps64;go_wp2_with fail;refine(z1z ao cap ps _ HS.out hcap (by omega) (by omega)).mono ?_;rintro e w2 ⟨rfl,hb2⟩;have HB2:=hid hb2;clear hb2;go_wp2_with fail;go_ret;exact⟨rfl,HB2.out⟩
theorem zam (r:Rec)(w:World):Calls Tryz.prog 136 #[.int .i64 r.num,.int .i64 r.ty] w fun e w'=>e=.returned (.bool (vtk r))/\w=w':=by
 obtain⟨num,ty,n,s,raw⟩:=r
 by_cases h1:num=1
 ·subst h1
  have hb:Hid (vtk ⟨1,ty,n,s,raw⟩=((ty:Int) == (2:Int))):=hid (by rw[show((2:Int))=((2:Nat):Int)from rfl,ibeq];unfold vtk;simp);go_enter Tryz.func136,Tryz.ntmps136;go_wp2_with fail;go_ret;exact⟨by rw[hb.out];rfl,rfl⟩
 by_cases h5:num=5
 ·subst h5
  have hb:Hid (vtk ⟨5,ty,n,s,raw⟩=((ty:Int) == (2:Int))):=hid (by rw[show((2:Int))=((2:Nat):Int)from rfl,ibeq];unfold vtk;simp);go_enter Tryz.func136,Tryz.ntmps136;go_wp2_with fail;go_ret;exact⟨by rw[hb.out];rfl,rfl⟩
 by_cases h6:num=6
 ·subst h6
  have hb:Hid (vtk ⟨6,ty,n,s,raw⟩=((ty:Int) == (2:Int))):=hid (by rw[show((2:Int))=((2:Nat):Int)from rfl,ibeq];unfold vtk;simp);go_enter Tryz.func136,Tryz.ntmps136;go_wp2_with fail;go_ret;exact⟨by rw[hb.out];rfl,rfl⟩
 by_cases h7:num=7
 ·subst h7
  have hb:Hid (vtk ⟨7,ty,n,s,raw⟩=((ty:Int) == (2:Int))):=hid (by rw[show((2:Int))=((2:Nat):Int)from rfl,ibeq];unfold vtk;simp);go_enter Tryz.func136,Tryz.ntmps136;go_wp2_with fail;go_ret;exact⟨by rw[hb.out];rfl,rfl⟩
 by_cases h2:num=2
 ·subst h2
  have hb:Hid (vtk ⟨2,ty,n,s,raw⟩=((ty:Int) == (0:Int))):=hid (by rw[show((0:Int))=((0:Nat):Int)from rfl,ibeq];unfold vtk;simp);go_enter Tryz.func136,Tryz.ntmps136;go_wp2_with fail;go_ret;exact⟨by rw[hb.out];rfl,rfl⟩
 by_cases h3:num=3
 ·subst h3
  have hb:Hid (vtk ⟨3,ty,n,s,raw⟩=((ty:Int) == (0:Int))):=hid (by rw[show((0:Int))=((0:Nat):Int)from rfl,ibeq];unfold vtk;simp);go_enter Tryz.func136,Tryz.ntmps136;go_wp2_with fail;go_ret;exact⟨by rw[hb.out];rfl,rfl⟩
 by_cases h4:num=4
 ·subst h4
  have hb:Hid (vtk ⟨4,ty,n,s,raw⟩=((ty:Int) == (1:Int))):=hid (by rw[show((1:Int))=((1:Nat):Int)from rfl,ibeq];unfold vtk;simp);go_enter Tryz.func136,Tryz.ntmps136;go_wp2_with fail;go_ret;exact⟨by rw[hb.out];rfl,rfl⟩
 have d1:((num:Int) == (1:Int))=false:=ibf (by omega)
 have d5:((num:Int) == (5:Int))=false:=ibf (by omega)
 have d6:((num:Int) == (6:Int))=false:=ibf (by omega)
 have d7:((num:Int) == (7:Int))=false:=ibf (by omega)
 have d2:((num:Int) == (2:Int))=false:=ibf (by omega)
 have d3:((num:Int) == (3:Int))=false:=ibf (by omega)
 have d4:((num:Int) == (4:Int))=false:=ibf (by omega)
 have hb:Hid (vtk ⟨num,ty,n,s,raw⟩=false):=hid (by unfold vtk;simp;omega);clear h1 h5 h6 h7 h2 h3 h4;go_enter Tryz.func136,Tryz.ntmps136;go_wp2_with fail;go_ret;exact⟨by rw[hb.out];rfl,rfl⟩
theorem zab (r:Rec)(w:World):Calls Tryz.prog 98 #[.int .i64 r.num,.int .i64 r.ty] w fun e w'=>e=.returned (.bool (ktk r))/\w=w':=by
 obtain⟨num,ty,n,s,raw⟩:=r
 by_cases h1:num=1
 ·subst h1
  have hb:Hid (ktk ⟨1,ty,n,s,raw⟩=((ty:Int) == (2:Int))):=hid (by rw[show((2:Int))=((2:Nat):Int)from rfl,ibeq];unfold ktk;simp);go_enter Tryz.func98,Tryz.ntmps98;go_wp2_with fail;go_ret;exact⟨by rw[hb.out];rfl,rfl⟩
 by_cases h2:num=2
 ·subst h2
  have hb:Hid (ktk ⟨2,ty,n,s,raw⟩=((ty:Int) == (2:Int))):=hid (by rw[show((2:Int))=((2:Nat):Int)from rfl,ibeq];unfold ktk;simp);go_enter Tryz.func98,Tryz.ntmps98;go_wp2_with fail;go_ret;exact⟨by rw[hb.out];rfl,rfl⟩
 have d1:((num:Int) == (1:Int))=false:=ibf (by omega)
 have d2:((num:Int) == (2:Int))=false:=ibf (by omega)
 have hb:Hid (ktk ⟨num,ty,n,s,raw⟩=false):=hid (by unfold ktk;simp;omega);clear h1 h2;go_enter Tryz.func98,Tryz.ntmps98;go_wp2_with fail;go_ret;exact⟨by rw[hb.out];rfl,rfl⟩
theorem z3e (r:Rec)(w:World):Calls Tryz.prog 169 #[.int .i64 r.num,.int .i64 r.ty] w fun e w'=>e=.returned (.bool (itk r))/\w=w':=by
 obtain⟨num,ty,n,s,raw⟩:=r
 by_cases h1:num=1
 ·subst h1
  have hb:Hid (itk ⟨1,ty,n,s,raw⟩=((ty:Int) == (2:Int))):=hid (by rw[show((2:Int))=((2:Nat):Int)from rfl,ibeq];unfold itk;simp);go_enter Tryz.func169,Tryz.ntmps169;go_wp2_with fail;go_ret;exact⟨by rw[hb.out];rfl,rfl⟩
 have d1:((num:Int) == (1:Int))=false:=ibf (by omega)
 have hb:Hid (itk ⟨num,ty,n,s,raw⟩=false):=hid (by unfold itk;simp;omega);clear h1;go_enter Tryz.func169,Tryz.ntmps169;go_wp2_with fail;go_ret;exact⟨by rw[hb.out];rfl,rfl⟩
def oneRow (r:Rec)(v:Value):Array Value:=#[.int .i64 r.num,.int .i64 r.ty,.int .u64 r.n,strV r.s,strV r.raw,v]
def qd (r:Rec):Array Value:=#[.int .i64 r.num,.int .i64 r.ty,.int .u64 r.n,strV r.s,strV r.raw]
def OT (rb b:Nat)(A B:Array Value)(w:World):Prop:=w.heap[rb]?=some (.cells A 78 (0,0))/\w.heap[b]?=some (.cells B 251 (0,0))
theorem z6j {w:World}{b:Nat}{o:Rec}{v:Value}(h:w.heap[b]?=some (.cells (oneRow o v) 251 (0,0)))(x0 x1 x2 x3 x4:Value) :
  (((((w.setCell ⟨b,0,none⟩ x0).setCell ⟨b,1,none⟩ x1).setCell ⟨b,2,none⟩ x2).setCell ⟨b,3,none⟩ x3).setCell ⟨b,4,none⟩ x4).heap[b]?=some (.cells #[x0,x1,x2,x3,x4,v] 251 (0,0)) :=
 ze (ze (ze (ze (ze h 0 x0) 1 x1) 2 x2) 3 x3) 4 x4
theorem z7u (w:World)(b:Nat)(x0 x1 x2 x3 x4:Value):Upd (fun k=>k=b) w (((((w.setCell ⟨b,0,none⟩ x0).setCell ⟨b,1,none⟩ x1).setCell ⟨b,2,none⟩ x2).setCell ⟨b,3,none⟩ x3).setCell ⟨b,4,none⟩ x4) :=
 ((((Upd.set w ⟨b,0,none⟩ x0).trans (Upd.set _ ⟨b,1,none⟩ x1)).trans (Upd.set _ ⟨b,2,none⟩ x2)).trans (Upd.set _ ⟨b,3,none⟩ x3)).trans (Upd.set _ ⟨b,4,none⟩ x4)
def OTPost (b:Nat)(o:One)(v:Value)(r:Rec)(w:World)(e:Ending)(w':World):Prop:=e=.returned (.tuple #[])/\Upd (fun k=>k=b∨v.ownBlock=some k) w w'/\∃v',w'.heap[b]?=some (.cells (oneRow r v') 251 (0,0))/\w'.ownsRow (b+1) 9 1 v' (oput o r).ps.length ((oput o r).ps.map strV)/\∀k,v'.ownBlock=some k->v.ownBlock=some k∨w.heap.size<=k
theorem zc8 (b:Nat)(o:One)(v:Value)(r:Rec)(w:World)(hrow:Hid (w.heap[b]?=some (.cells (oneRow o.r v) 251 (0,0))))(hown:Hid (w.ownsRow (b+1) 9 1 v o.ps.length (o.ps.map strV)))(hl:o.ps.length<=1000000)(hbw:b+1<=w.heap.size) :
  Calls Tryz.prog 138 #[.pointer (some ⟨b,0,none⟩),recV r] w (OTPost b o v r w):=by
 obtain⟨ao,cap,rfl⟩:=zh hown.out;obtain⟨rb,hrb⟩:=nmd (w.heap.size)
 obtain⟨W0,hW0⟩:∃W,w.alloc (.cells (qd r) 78)=W:=⟨_,rfl⟩
 have HU0:Hid (Upd (fun _=>False) w W0):=hid (by rw[<-hW0];exact Upd.alloc _ _ _);have HRR0:Hid (W0.heap[rb]?=some (.cells (qd r) 78 (0,0))):=hid (by rw[<-hW0,<-hrb];exact heap_alloc_new w _);have HO0:Hid (W0.heap[b]?=some (.cells (oneRow o.r (.slice ao o.ps.length cap)) 251 (0,0))):=hid ((HU0.out.block b (z8 hrow.out) (fun h=>h)).trans hrow.out);have HW0:=hid hW0;have HRB:=hid hrb;clear hW0 hrb;unfold recV;go_enter Tryz.func138,Tryz.ntmps138;go_wp2_with fail;rw[show w.alloc (.cells #[.int .i64 r.num,.int .i64 r.ty,.int .u64 r.n,.string ⟨r.s.toArray⟩,.string ⟨r.raw.toArray⟩] 78)=W0 from HW0.out,HRB.out];obtain⟨D,hD⟩:=nmd (W0.drew)
 have HUD:Hid (Upd (fun _=>False) w D):=hid (by rw[<-hD];exact HU0.out.trans (Upd.drew _ W0));have HDD:Hid (OT rb b (qd r) (oneRow o.r (.slice ao o.ps.length cap)) D):=hid (by rw[<-hD];exact⟨HRR0.out,HO0.out⟩);have HN:Hid (b≠rb):=hid (by have:=HRB.out;omega);have hne:Nonempty {w' // OT rb b (qd r) (oneRow o.r (.slice ao o.ps.length cap)) w'}:=⟨⟨_,HDD.out⟩⟩
 have hx:∀t:{w' // OT rb b (qd r) (oneRow o.r (.slice ao o.ps.length cap)) w'},t.1.cell? ⟨rb,0,none⟩=some (.int .i64 r.num):=fun t=>za t.2.1 (j:=0) rfl
 have hy:∀t:{w' // OT rb b (qd r) (oneRow o.r (.slice ao o.ps.length cap)) w'},t.1.cell? ⟨b,0,none⟩=some (.int .i64 o.r.num):=fun t=>za t.2.2 (j:=0) rfl
 refine zj (S:=OT rb b (qd r) (oneRow o.r (.slice ao o.ps.length cap))) [(0,true),(1,true),(2,true),(3,true),(4,true),(5,true),(6,true),(7,true)] (by kernel_rfl) (by kernel_rfl) (by kernel_rfl) (by kernel_rfl) (by rw[hD];exact HDD.out) ?_;rw[hD];clear hD
 iterate 8 (refine zf _ rfl (fun K hK=>?_);go_simp;(first|refine hK _ ?_|refine⟨_,fun _ _=>rfl,hK _ ?_⟩);clear hK K)
 refine zw ?_;clear hx hy hne;have HOD:Hid (D.ownsRow (b+1) 9 1 (.slice ao o.ps.length cap) o.ps.length (o.ps.map strV)):=hid (HUD.out.own hown.out (fun _ _ h=>h));have HFRESH:Hid (¬(Value.slice ao o.ps.length cap).ownBlock=some rb):=hid (fun h=>by have:=(hown.out.lt rb h).2;have:=HRB.out;omega);have HRD:=hid HDD.out.1;have HBD:=hid HDD.out.2
 by_cases hn:r.num=o.r.num
 ·have d1:((r.num:Int) != (o.r.num:Int))=false:=by rw[hn];simp
  have HP:Hid ((oput o r).ps=o.ps++[r.s]):=hid (if_pos hn);clear hn;have hr0:=rc0 HRD.out;have hr1:=rc1 HRD.out;have hr2:=rc2 HRD.out;have hr3:D.cell? ⟨rb,3,none⟩=some (.string ⟨r.s.toArray⟩):=za HRD.out (j:=3) rfl;have hr4:D.cell? ⟨rb,4,none⟩=some (.string ⟨r.raw.toArray⟩):=za HRD.out (j:=4) rfl;have hb0:=rc0 HBD.out;have hf0:=z7 HBD.out 0;have hb1:=rc1 HBD.out;have hf1:=z7 HBD.out 1;have hb2:=rc2 HBD.out;have hf2:=z7 HBD.out 2;have hb3:=rc3 HBD.out;have hf3:=z7 HBD.out 3;have hb4:=rc4 HBD.out;have hf4:=z7 HBD.out 4;go_wp2_with fail;obtain⟨W2,hW2⟩:=nmd ((((((D.setCell ⟨b,0,none⟩ (.int .i64 r.num)).setCell ⟨b,1,none⟩ (.int .i64 r.ty)).setCell ⟨b,2,none⟩ (.int .u64 r.n)).setCell ⟨b,3,none⟩ (.string ⟨r.s.toArray⟩)).setCell ⟨b,4,none⟩ (.string ⟨r.raw.toArray⟩)))
  have HU2:Hid (Upd (fun k=>k=b) D W2):=hid (by rw[<-hW2];exact z7u _ _ _ _ _ _ _);have HB2:Hid (W2.heap[b]?=some (.cells (oneRow r (.slice ao o.ps.length cap)) 251 (0,0))):=hid (by rw[<-hW2];exact z6j HBD.out _ _ _ _ _);have HR2:Hid (W2.heap[rb]?=some (.cells (qd r) 78 (0,0))):=hid ((HU2.out.block rb (z8 HRD.out) (fun e=>HN.out e.symm)).trans HRD.out);have HO2:Hid (W2.ownsRow (b+1) 9 1 (.slice ao o.ps.length cap) o.ps.length (o.ps.map strV)):=hid (HU2.out.own HOD.out (fun k hk e=>by have e:k=b:=e;have:=(HOD.out.lt k hk).1;omega));rw[hW2];clear hW2 hr0 hr1 hr2 hr3 hr4 hb0 hb1 hb2 hb3 hb4 hf0 hf1 hf2 hf3 hf4;obtain⟨D2,hD2⟩:∃D,W2.drew=D:=⟨_,rfl⟩
  have HUD2:Hid (Upd (fun k=>k=b) D D2):=hid (by rw[<-hD2];exact HU2.out.trans (Upd.drew _ W2));have HRD2:Hid (D2.heap[rb]?=some (.cells (qd r) 78 (0,0))):=hid (by rw[<-hD2];exact HR2.out);have HBD2:Hid (D2.heap[b]?=some (.cells (oneRow r (.slice ao o.ps.length cap)) 251 (0,0))):=hid (by rw[<-hD2];exact HB2.out);have HOD2:Hid (D2.ownsRow (b+1) 9 1 (.slice ao o.ps.length cap) o.ps.length (o.ps.map strV)):=hid (by rw[<-hD2];exact HO2.out);have hne:Nonempty {w':World // w'.heap[rb]?=some (.cells (qd r) 78 (0,0))}:=⟨⟨_,HRD2.out⟩⟩
  have hx:∀t:{w':World // w'.heap[rb]?=some (.cells (qd r) 78 (0,0))},t.1.cell? ⟨rb,3,none⟩=some (strV r.s):=fun t=>za t.2 (j:=3) rfl
  refine zj (S:=fun w'=>w'.heap[rb]?=some (.cells (qd r) 78 (0,0))) [(0,true),(1,true),(2,true),(3,true),(4,true),(5,false)] (by kernel_rfl) (by kernel_rfl) (by kernel_rfl) (by kernel_rfl) (by rw[hD2];exact HRD2.out) ?_;rw[hD2];clear hD2
  iterate 5 (refine zf _ rfl (fun K hK=>?_);go_simp;(first|refine hK _ ?_|refine⟨_,fun _ _=>rfl,hK _ ?_⟩);clear hK K)
  clear hx hne;refine zo _ rfl (fun K hK=>?_);go_simp;refine(Qn (cs:=oneRow r (.slice ao o.ps.length cap)) (T:=251) b 5 (.slice ao o.ps.length cap) o.ps (b+1) r.s D2 HBD2 rfl HOD2 (by omega) (by have:=HUD2.out.size;have:=HUD.out.size;omega) (by first|omega|simp)).mono ?_;rintro e w3 ⟨rfl,hu3,v',h3,h4,h5⟩;have HU3:=hid hu3;have H3:=hid h3;have H4:=hid h4;have H5:=hid h5;have HR3:Hid (w3.heap[rb]?=some (.cells (qd r) 78 (0,0))):=hid ((hu3.block rb (z8 HRD2.out) (fun h=>by rcases h with h|h;exact HN.out h.symm;have:=(HOD2.out.lt rb h).2;first|(have:=(HFRESH.out);exact this h)|skip)).trans HRD2.out);clear hu3 h3 h4 h5;go_simp;refine hK.out _ _ HR3.out ?_;clear hK K;refine zw ?_;go_wp2_with fail
  go_end0
  refine⟨rfl,((HUD.out.mono fun _ _ h=>h.elim).trans (HUD2.out.mono fun k _ h => .inl h)).trans' HU3.out (fun k hk h=>h),v',H3.out,by rw[HP.out];exact H4.out,fun k hk=>?_⟩
  rcases H5.out k hk with h|h
  ·exact .inl h
  ·exact .inr (by have:=HUD2.out.size;have:=HUD.out.size;omega)
 ·have d1:((r.num:Int) != (o.r.num:Int))=true:=by rw[bne_iff_ne];omega
  have HP:Hid ((oput o r).ps=[]++[r.s]):=hid (by show(if r.num=o.r.num then _ else _)=_;rw[if_neg hn];rfl);have hb5:=rc5 HBD.out;have hf5:=z7 HBD.out 5;have HU1:Hid (Upd (fun k=>k=b) D (D.setCell ⟨b,5,none⟩ (.slice none 0 0))):=hid (Upd.set D ⟨b,5,none⟩ _);have HB1:Hid ((D.setCell ⟨b,5,none⟩ (.slice none 0 0)).heap[b]?=some (.cells (oneRow o.r (.slice none 0 0)) 251 (0,0))):=hid (ze HBD.out 5 _);have HR1:Hid ((D.setCell ⟨b,5,none⟩ (.slice none 0 0)).heap[rb]?=some (.cells (qd r) 78 (0,0))):=hid ((HU1.out.block rb (z8 HRD.out) (fun e=>HN.out e.symm)).trans HRD.out);obtain⟨E,hE⟩:=nmd (D.setCell ⟨b,5,none⟩ (.slice none 0 0))
  rw[hE]at HU1 HB1 HR1;have HE:=hid hE;have HO1:Hid (E.ownsRow (b+1) 9 1 (.slice none 0 0) ([]:List (List UInt8)).length (([]:List (List UInt8)).map strV)):=hid (World.ownsRow_nil _ _ _ _);have HFRESH:Hid (¬(Value.slice none 0 0).ownBlock=some rb):=hid (fun h=>by simp[Value.ownBlock]at h);have HUE:Hid (Upd (fun k=>k=b) w E):=hid ((HUD.out.mono fun _ _ h=>h.elim).trans HU1.out);clear hn hE;go_upto_region 3 with fail
  rw[HE.out];clear hb5 hf5;have hr0:=rc0 HR1.out;have hr1:=rc1 HR1.out;have hr2:=rc2 HR1.out;have hr3:E.cell? ⟨rb,3,none⟩=some (.string ⟨r.s.toArray⟩):=za HR1.out (j:=3) rfl;have hr4:E.cell? ⟨rb,4,none⟩=some (.string ⟨r.raw.toArray⟩):=za HR1.out (j:=4) rfl;have hb0:=rc0 HB1.out;have hf0:=z7 HB1.out 0;have hb1:=rc1 HB1.out;have hf1:=z7 HB1.out 1;have hb2:=rc2 HB1.out;have hf2:=z7 HB1.out 2;have hb3:=rc3 HB1.out;have hf3:=z7 HB1.out 3;have hb4:=rc4 HB1.out;have hf4:=z7 HB1.out 4;go_wp2_with fail;obtain⟨W2,hW2⟩:=nmd ((((((E.setCell ⟨b,0,none⟩ (.int .i64 r.num)).setCell ⟨b,1,none⟩ (.int .i64 r.ty)).setCell ⟨b,2,none⟩ (.int .u64 r.n)).setCell ⟨b,3,none⟩ (.string ⟨r.s.toArray⟩)).setCell ⟨b,4,none⟩ (.string ⟨r.raw.toArray⟩)))
  have HU2:Hid (Upd (fun k=>k=b) E W2):=hid (by rw[<-hW2];exact z7u _ _ _ _ _ _ _);have HB2:Hid (W2.heap[b]?=some (.cells (oneRow r (.slice none 0 0)) 251 (0,0))):=hid (by rw[<-hW2];exact z6j HB1.out _ _ _ _ _);have HR2:Hid (W2.heap[rb]?=some (.cells (qd r) 78 (0,0))):=hid ((HU2.out.block rb (z8 HR1.out) (fun e=>HN.out e.symm)).trans HR1.out);have HO2:Hid (W2.ownsRow (b+1) 9 1 (.slice none 0 0) ([]:List (List UInt8)).length (([]:List (List UInt8)).map strV)):=hid (HU2.out.own HO1.out (fun k hk e=>by have e:k=b:=e;have:=(HO1.out.lt k hk).1;omega));rw[hW2];clear hW2 hr0 hr1 hr2 hr3 hr4 hb0 hb1 hb2 hb3 hb4 hf0 hf1 hf2 hf3 hf4;obtain⟨D2,hD2⟩:∃D,W2.drew=D:=⟨_,rfl⟩
  have HUD2:Hid (Upd (fun k=>k=b) E D2):=hid (by rw[<-hD2];exact HU2.out.trans (Upd.drew _ W2));have HRD2:Hid (D2.heap[rb]?=some (.cells (qd r) 78 (0,0))):=hid (by rw[<-hD2];exact HR2.out);have HBD2:Hid (D2.heap[b]?=some (.cells (oneRow r (.slice none 0 0)) 251 (0,0))):=hid (by rw[<-hD2];exact HB2.out);have HOD2:Hid (D2.ownsRow (b+1) 9 1 (.slice none 0 0) ([]:List (List UInt8)).length (([]:List (List UInt8)).map strV)):=hid (by rw[<-hD2];exact HO2.out);have hne:Nonempty {w':World // w'.heap[rb]?=some (.cells (qd r) 78 (0,0))}:=⟨⟨_,HRD2.out⟩⟩
  have hx:∀t:{w':World // w'.heap[rb]?=some (.cells (qd r) 78 (0,0))},t.1.cell? ⟨rb,3,none⟩=some (strV r.s):=fun t=>za t.2 (j:=3) rfl
  refine zj (S:=fun w'=>w'.heap[rb]?=some (.cells (qd r) 78 (0,0))) [(0,true),(1,true),(2,true),(3,true),(4,true),(5,false)] (by kernel_rfl) (by kernel_rfl) (by kernel_rfl) (by kernel_rfl) (by rw[hD2];exact HRD2.out) ?_;rw[hD2];clear hD2
  iterate 5 (refine zf _ rfl (fun K hK=>?_);go_simp;(first|refine hK _ ?_|refine⟨_,fun _ _=>rfl,hK _ ?_⟩);clear hK K)
  clear hx hne;refine zo _ rfl (fun K hK=>?_);go_simp;refine(Qn (cs:=oneRow r (.slice none 0 0)) (T:=251) b 5 (.slice none 0 0) ([]:List (List UInt8)) (b+1) r.s D2 HBD2 rfl HOD2 (by omega) (by have:=HUD2.out.size;have:=HUE.out.size;omega) (by first|omega|simp)).mono ?_;rintro e w3 ⟨rfl,hu3,v',h3,h4,h5⟩;have HU3:=hid hu3;have H3:=hid h3;have H4:=hid h4;have H5:=hid h5;have HR3:Hid (w3.heap[rb]?=some (.cells (qd r) 78 (0,0))):=hid ((hu3.block rb (z8 HRD2.out) (fun h=>by rcases h with h|h;exact HN.out h.symm;have:=(HOD2.out.lt rb h).2;first|(have:=(HFRESH.out);exact this h)|skip)).trans HRD2.out);clear hu3 h3 h4 h5;go_simp;refine hK.out _ _ HR3.out ?_;clear hK K;refine zw ?_;go_wp2_with fail
  go_end0
  refine⟨rfl,((HUE.out.mono fun k _ h => .inl h).trans (HUD2.out.mono fun k _ h => .inl h)).trans' HU3.out (fun k hk h=>by rcases h with h|h;exact .inl h;simp[Value.ownBlock]at h),v',H3.out,by rw[HP.out];exact H4.out,fun k hk=>?_⟩
  rcases H5.out k hk with h|h
  ·simp[Value.ownBlock]at h
  ·exact .inr (by have:=HUD2.out.size;have:=HUE.out.size;omega)
def z5p (b:Nat)(o:One)(P:Nat->Prop)(w:World):Prop:=∃v,w.heap[b]?=some (.cells (oneRow o.r v) 251 (0,0))/\w.ownsRow (b+1) 9 1 v o.ps.length (o.ps.map strV)/\P=fun k=>k=b∨v.ownBlock=some k
def K6 (b:Nat):j5 One where
 rel:=z5p b
 lt:=by
  rintro o P w ⟨v,h1,h2,rfl⟩ k (rfl|hk)
  ·exact z8 h1
  ·exact(h2.lt k hk).2
 kept:=by
  rintro o P w w' ⟨v,h1,h2,rfl⟩ hu;exact⟨v,(hu.block b (z8 h1) (fun h=>h (.inl rfl))).trans h1,hu.own h2 (fun k hk h=>h (.inr hk)),rfl⟩
theorem zdt (b:Nat)(r:Rec)(o:One)(P:Nat->Prop)(w:World)(hs:r.s.length<=1000000)(hl:o.ps.length<=999999)(h:Hid (z5p b o P w)) :
  Calls Tryz.prog 137 #[recV r,.pointer (some ⟨b,0,none⟩)] w (xx (K6 b) yw o P r w):=by
 obtain⟨v,h1,h2,rfl⟩:=h.out;have H1:=hid h1;have H2:=hid h2;have hbw:=z8 h1;clear h1 h2;obtain⟨rb,hrb⟩:=nmd (w.heap.size)
 obtain⟨W0,hW0⟩:=nmd (w.alloc (.cells #[.int .i64 r.num,.int .i64 r.ty,.int .u64 r.n,.string ⟨r.s.toArray⟩,.string ⟨r.raw.toArray⟩] 78))
 have HU0:Hid (Upd (fun _=>False) w W0):=hid (by rw[<-hW0];exact Upd.alloc _ _ _);have HR0:Hid (W0.heap[rb]?=some (.cells #[.int .i64 r.num,.int .i64 r.ty,.int .u64 r.n,.string ⟨r.s.toArray⟩,.string ⟨r.raw.toArray⟩] 78 (0,0))):=hid (by rw[<-hW0,<-hrb];exact heap_alloc_new w _);have HW0:=hid hW0;have HRB:=hid hrb;have HT:=hid (zc8 b o v r W0 (hid ((HU0.out.block b hbw (fun h=>h)).trans H1.out)) (hid (HU0.out.own H2.out (fun _ _ h=>h))) (by omega) (by have:=HU0.out.size;omega));obtain⟨X,hX⟩:∃X:ByteArray,(⟨r.s.toArray⟩:ByteArray)=X:=⟨_,rfl⟩
 have hXs:X.size<=1000000:=by rw[<-hX];simp[ByteArray.size];omega
 have HXD:Hid (X.data.toList=r.s):=hid (by rw[<-hX]);have HFR:Hid (¬v.ownBlock=some rb):=hid (fun h=>by have:=(H2.out.lt rb h).2;omega);have HNB:Hid (rb≠b):=hid (by omega);have hr0:=rc0 HR0.out;have hr1:=rc1 HR0.out;have hr2:=rc2 HR0.out;have hr3:W0.cell? ⟨rb,3,none⟩=some (.string X):=by rw[<-hX];exact za HR0.out (j:=3) rfl
 have hr4:=rc4 HR0.out;unfold recV at HT ⊢
 rw[hX]at HT HR0 HW0 ⊢;clear hW0 hrb hX;go_enter Tryz.func137,Tryz.ntmps137;go_wp2_with fail;rw[HW0.out,HRB.out];go_wp2_with fail;refine HT.out.mono ?_;intro e w1 hpost;obtain⟨rfl,hu1,v',h1,h2,h3⟩:=hpost;have HU1:Hid (Upd (fun k=>k=b∨v.ownBlock=some k) w w1):=hid ((HU0.out.mono fun _ _ h=>h.elim).trans hu1);have HR1:=hid ((hu1.block rb (z8 HR0.out) (fun h=>by rcases h with h|h;exact HNB.out h;exact HFR.out h)).trans HR0.out);have HA:Hid (z5p b (oput o r) (fun k=>k=b∨v'.ownBlock=some k) w1):=hid ⟨v',h1,h2,rfl⟩
 have H3:Hid (∀k,(k=b∨v'.ownBlock=some k)->(k=b∨v.ownBlock=some k)∨w.heap.size<=k):=hid (fun k hk=>by
  rcases hk with hk|hk
  ·exact .inl (.inl hk)
  ·rcases h3 k hk with h|h
   ·exact .inl (.inr h)
   ·exact .inr (Nat.le_trans HU0.out.size h))
 have hr0':=rc0 HR1.out;have hr3':=rc3 HR1.out;clear hu1 h1 h2 h3 hr0 hr1 hr2 hr3 hr4 HT
 by_cases hn:r.num=1
 ·have d1:((r.num:Int) != 1)=false:=by rw[hn];rfl
  have HCK:=hid (z5d X w1 (by omega))
  cases hv:xb r.s with
  | true =>
   have HS:Hid (yw o r=.ok (oput o r)):=hid (by unfold yw;rw[if_neg (by rw[hv];simp)]);have HV:=hid (z55 hv);clear hn hv;go_wp2_with fail;refine HCK.out.mono ?_;intro e w2 hp;unfold UChk at hp
   rw[HXD.out,if_pos HV.out]at hp;obtain⟨rfl,rfl⟩:=hp;go_wp2_with fail;refine(Xe _ _).mono ?_;rintro e w' ⟨rfl,rfl⟩;go_wp2_with fail;go_ret;refine⟨HU1.out,?_⟩;rw[HS.out];exact⟨rfl,_,HA.out,H3.out⟩
  | false =>
   have HS:Hid (yw o r=.error 5):=hid (by unfold yw;rw[if_pos ⟨hn,hv⟩]);have HV:=hid (z2e hv);clear hn hv;go_wp2_with fail;refine HCK.out.mono ?_;intro e w2 hp;unfold UChk at hp
   rw[HXD.out,if_neg (fun h=>by have:=HV.out;omega)]at hp;obtain⟨y,rfl,hE⟩:=hp;have hec:EC w2 y 5:=⟨_,hE.isErr⟩
   obtain⟨T',z,rfl⟩:=hec.iface;have HEC:=hid hec;have HB2:=hid hE.2;clear hE hec;go_wp2_with fail;refine(Zs _ _ _ _).mono ?_;rintro e w' ⟨rfl,rfl⟩;go_wp2_with fail;go_ret;refine⟨(HU1.out.trans (Upd.of_new HB2.out)).trans (Upd.alloc _ _ _),?_⟩;rw[HS.out];exact⟨_,rfl,kt HEC.out⟩
 ·have d1:((r.num:Int) != 1)=true:=by rw[bne_iff_ne];omega
  have HS:Hid (yw o r=.ok (oput o r)):=hid (by unfold yw;rw[if_neg (fun h=>hn h.1)]);clear hn;go_wp2_with fail;go_ret;refine⟨HU1.out,?_⟩;rw[HS.out];exact⟨rfl,_,HA.out,H3.out⟩
def Z0:Array Value:=#[.int .i64 0,.string ⟨#[]⟩,.bool false,.int .u64 0,.slice none 0 0,.slice none 0 0,.string ⟨#[]⟩,.string ⟨#[]⟩]
def Jy:Array Value:=#[.string ⟨#[]⟩,.bool false,.int .i64 0,.string ⟨#[]⟩,.bool false,.int .u64 0,.slice none 0 0,.slice none 0 0,.string ⟨#[]⟩,.string ⟨#[]⟩,.string ⟨#[]⟩]
theorem VRel.form {w:World}{P:Nat->Prop}:∀{x:Val} {c:List Value},VRel w P x c->∃(k:Int) (S:ByteArray) (b0:Bool) (n:Int) (lo:Option Addr) (ln lc:Nat) (mo:Option Addr) (mn mc:Nat) (I U:ByteArray),c=[.int .i64 k,.string S,.bool b0,.int .u64 n,.slice lo ln lc,.slice mo mn mc,.string I,.string U]
 | .mk _ _ _ _ _ _ _ _,c,h=>by
  rw[VRel]at h;obtain⟨lo,lc,mo,mc,rfl,_⟩:=h;exact⟨_,_,_,_,_,_,_,_,_,_,_,_,rfl⟩
theorem KRel.form {w:World}{P:Nat->Prop}:∀{x:KV} {c:List Value},KRel w P x c->∃(K0:ByteArray) (h0:Bool) (k:Int) (S:ByteArray) (b0:Bool) (n:Int) (lo:Option Addr) (ln lc:Nat) (mo:Option Addr) (mn mc:Nat) (I U U0:ByteArray),c=[.string K0,.bool h0,.int .i64 k,.string S,.bool b0,.int .u64 n,.slice lo ln lc,.slice mo mn mc,.string I,.string U,.string U0]
 | .mk _ _ _ _,c,h=>by
  rw[KRel]at h;obtain⟨cs,h1,rfl⟩:=h;obtain⟨k,S,b0,n,lo,ln,lc,mo,mn,mc,I,U,rfl⟩:=h1.form;exact⟨_,_,_,_,_,_,_,_,_,_,_,_,_,_,_,rfl⟩
def z14:List Value->Nat->List Value->List Value
 | xs,_,[]=>xs
 | xs,o,v::r=>z14 (xs.set o v) (o+1) r
theorem qy {fl:List Value}:∀(cs zs:List Value) (o:Nat),fl.length=o->zs.length=cs.length->z14 (fl++zs) o cs=fl++cs
 | [],zs,o,_,h=>by
  obtain rfl:=List.eq_nil_of_length_eq_zero h
  rfl
 | c::cs,z::zs,o,hf,h=>by
  rw[z14,List.set_append_right _ _ (by omega),hf,Nat.sub_self,List.set_cons_zero,show fl++c::zs=(fl++[c])++zs by simp,qy (fl:=fl++[c]) cs zs (o+1) (by simp;omega) (by simpa using h)]
  simp
theorem qm {base:Nat}{T:TypeId}{size g m cap:Nat}:∀(vs:List Value) (o:Nat) (w:World) (xs:List Value),w.ownsRow base T size (.slice (some ⟨g,0,none⟩) m cap) m xs->(w.setCells g o vs).ownsRow base T size (.slice (some ⟨g,0,none⟩) m cap) m (z14 xs o vs)/\Upd (fun k=>k=g) w (w.setCells g o vs)
 | [],o,w,xs,h=>⟨h,Upd.refl _ _⟩
 | v::r,o,w,xs,h=>by
  have h1:=qm r (o+1) (w.setCell ⟨g,o,none⟩ v) (xs.set o v) (h.stored o v).1;exact⟨h1.1,(Upd.set w ⟨g,o,none⟩ v).trans h1.2⟩
structure Cel (α:Type) where
 R:World->(Nat->Prop)->α->List Value->Prop
 size:Nat
 len:∀{w P x cs},R w P x cs->cs.length=size
 upd:∀{w w' S P Q x cs},Upd S w w'->(∀k,P k->¬S k)->(∀k,P k->Q k)->R w P x cs->R w' Q x cs
 lt:∀{w P x cs},R w P x cs->R w (fun k=>P k/\k<w.heap.size) x cs
def Z9 {α:Type}(C:Cel α)(zero:Array Value)(rd:Except Nat α)(n:Nat)(w:World)(e:Ending)(w':World):Prop:=Below w.heap.size w w'/\match rd with
 | .error c=>∃v q,e=.returned (.tuple #[.agg zero,v])/\q<=n/\EW w' v q c
 | .ok x=>∃cs,e=.returned (.tuple #[.agg cs.toArray,.nilIface])/\C.R w' (fun k=>w.heap.size<=k) x cs
def LsAt {α:Type}(C:Cel α)(T:TypeId)(base:Nat)(v:Value)(xs:List α)(P:Nat->Prop)(w:World):Prop:=∃(css:List (List Value)) (Q:Nat->Prop),w.ownsRow base T C.size v xs.length css.flatten/\css.length=xs.length/\(∀j (h1:j<xs.length) (h2:j<css.length),C.R w Q xs[j] css[j])/\(∀k,Q k->k<w.heap.size/\base<=k/\v.ownBlock≠some k)/\P=fun k=>v.ownBlock=some k∨Q k
theorem LsAt.nil {α:Type}(C:Cel α)(T:TypeId)(base:Nat)(w:World):LsAt C T base (.slice none 0 0) [] (fun k=>(Value.slice none 0 0).ownBlock=some k∨False) w:=⟨[],fun _=>False,World.ownsRow_nil _ _ _ _,rfl,fun j h1=>by simp at h1,fun _ h=>h.elim,rfl⟩
theorem LsAt.lt {α:Type}{C:Cel α}{T:TypeId}{base:Nat}{v:Value}{xs:List α}{P:Nat->Prop}{w:World}(h:LsAt C T base v xs P w):∀k,P k->base<=k/\k<w.heap.size:=by
 obtain⟨css,Q,h2,h3,h4,h5,rfl⟩:=h;rintro k (hk|hk)
 ·exact h2.lt k hk
 ·exact⟨(h5 k hk).2.1,(h5 k hk).1⟩
theorem LsAt.kept {α:Type}{C:Cel α}{T:TypeId}{base:Nat}{v:Value}{xs:List α}{P:Nat->Prop}{w w':World}(h:LsAt C T base v xs P w)(hu:Upd (fun k=>¬P k) w w'):LsAt C T base v xs P w':=by
 obtain⟨css,Q,h2,h3,h4,h5,rfl⟩:=h;exact⟨css,Q,hu.own h2 (fun k hk h=>h (.inl hk)),h3,fun j g1 g2=>C.upd hu (fun k hk h=>h (.inr hk)) (fun k hk=>hk) (h4 j g1 g2),fun k hk=>⟨Nat.lt_of_lt_of_le (h5 k hk).1 hu.size,(h5 k hk).2⟩,rfl⟩
def Yw {α:Type}(C:Cel α)(T T0:TypeId)(b o base:Nat)(cs0:Array Value)(xs:List α)(P:Nat->Prop)(rd:Except Nat α)(w:World)(e:Ending)(w':World):Prop:=Upd (fun k=>k=b∨P k) w w'/\match rd with
 | .error c=>∃y,e=.returned y/\EC w' y c
 | .ok x=>e=.returned .nilIface/\∃v' P',w'.heap[b]?=some (.cells (cs0.setIfInBounds o v') T0 (0,0))/\LsAt C T base v' (xs++[x]) P' w'/\∀k,P' k->P k∨w.heap.size<=k
theorem Ko {α:Type}(C:Cel α){w:World}{Q:Nat->Prop}{xs:List α}{css:List (List Value)}(hl:css.length=xs.length)(hr:∀j (h1:j<xs.length) (h2:j<css.length),C.R w Q xs[j] css[j]):css.flatten.length=xs.length*C.size:=by
 have:∀c∈css,c.length=C.size:=fun c hc=>by
  obtain⟨i,hi,rfl⟩:=List.getElem_of_mem hc;exact C.len (hr i (by omega) hi)
 have aux:∀(l:List (List Value)),(∀c∈l,c.length=C.size)->l.flatten.length=l.length*C.size:=fun l=>by
  induction l with
  | nil=>intro _;simp
  | cons c l ih=>intro h;rw[List.flatten_cons,List.length_append,ih (fun x hx=>h x (List.mem_cons_of_mem _ hx)),h c (List.mem_cons_self ..),List.length_cons,Nat.add_mul];omega
 rw[aux css this,hl]
theorem js {α:Type} {C:Cel α} {T T0:TypeId} {b o base:Nat} {cs0:Array Value} {xs:List α} {x:α} {ao:Option Addr} {cap:Nat} {Q:Nat->Prop} {w w1 W:World} {css:List (List Value)} {cs:List Value} {g cap':Nat}
  (hbase:b<base/\base<=w.heap.size) (hb1:Below w.heap.size w w1) (h3:css.length=xs.length) (h4:∀j (h1:j<xs.length) (h2:j<css.length),C.R w Q xs[j] css[j]) (h5:∀k,Q k->k<w.heap.size/\base<=k/\(Value.slice ao xs.length cap).ownBlock≠some k)
  (hrel:C.R w1 (fun k=>w.heap.size<=k) x cs) (hrow:W.heap[b]?=some (.cells (cs0.setIfInBounds o (.slice (some ⟨g,0,none⟩) (xs.length+1) cap')) T0 (0,0))) (hown:W.ownsRow base T C.size (.slice (some ⟨g,0,none⟩) (xs.length+1) cap') (xs.length+1) (css.flatten++cs))
  (hu:Upd (fun k=>k=b∨(Value.slice ao xs.length cap).ownBlock=some k) w1 W) (hg:(Value.slice ao xs.length cap).ownBlock=some g∨w1.heap.size<=g) (hb0:∀k,(Value.slice ao xs.length cap).ownBlock=some k->k<w.heap.size) :
  Yw C T T0 b o base cs0 xs (fun k=>(Value.slice ao xs.length cap).ownBlock=some k∨Q k) (.ok x) w (.returned .nilIface) W:=by
 have hs1:=hb1.size;have hs2:=hu.size;have huw:Upd (fun k=>k=b∨(Value.slice ao xs.length cap).ownBlock=some k) w W:=(Upd.of_new hb1).trans hu;refine⟨huw.mono (fun k _ h=>h.imp id .inl),rfl,.slice (some ⟨g,0,none⟩) (xs.length+1) cap',fun k=>g=k∨(Q k∨(w.heap.size<=k/\k<w1.heap.size)),hrow,⟨css++[cs],fun k=>Q k∨(w.heap.size<=k/\k<w1.heap.size),?_,?_,?_,?_,?_⟩,?_⟩
 ·rw[List.flatten_append,List.flatten_singleton,List.length_append]
  exact hown
 ·rw[List.length_append,List.length_append,h3];rfl
 ·intro j h1 h2
  by_cases hj:j<xs.length
  ·rw[List.getElem_append_left hj,List.getElem_append_left (by omega)]
   exact C.upd huw (fun k hk hs=>by
    have:=h5 k hk
    rcases hs with h|h
    ·omega
    ·exact this.2.2 h) (fun k hk => .inl hk) (h4 j hj (by omega))
  ·have hje:j=xs.length:=by rw[List.length_append,List.length_singleton]at h1;omega
   subst hje;rw[List.getElem_append_right (Nat.le_refl _),List.getElem_append_right (by omega)]
   simp only[Nat.sub_self,List.getElem_cons_zero,h3]
   refine C.upd hu (fun k hk hs=>?_) (fun k hk => .inr hk) (C.lt hrel)
   rcases hs with h|h
   ·omega
   ·have:=hb0 k h;omega
 ·intro k hk
  rcases hk with hk|hk
  ·have:=h5 k hk
   refine⟨by omega,this.2.1,fun e=>?_⟩;have e:g=k:=by simpa [Value.ownBlock] using e
   rcases hg with h|h
   ·exact this.2.2 (e ▸ h)
   ·omega
  ·refine⟨by omega,by omega,fun e=>?_⟩
   have e:g=k:=by simpa [Value.ownBlock] using e
   rcases hg with h|h
   ·have:=hb0 g h;omega
   ·omega
 ·funext k
  simp[Value.ownBlock]
 ·intro k hk
  rcases hk with h|h|h
  ·rcases hg with h2|h2
   ·exact .inl (.inl (h ▸ h2))
   ·exact .inr (by omega)
  ·exact .inl (.inr h)
  ·exact .inr h.1
theorem Tryz.elVL:Elem Tryz.prog 51 53 (.agg #[.int .i64 0,.string ⟨#[]⟩,.bool false,.int .u64 0,.slice none 0 0,.slice none 0 0,.string ⟨#[]⟩,.string ⟨#[]⟩]) 8 120:=⟨Tryz.underlying51,by kernel_rfl,by decide⟩
def vcel:Cel Val where
 R:=VRel
 size:=8
 len:=fun h=>h.len
 upd:=fun hu hs hq h=>VRel.upd hu hs hq _ _ h
 lt:=fun h=>VRel.lt _ _ h
theorem zg4 (b o base:Nat)(cs0:Array Value)(T0:TypeId)(v:Value)(xs:List Val)(P:Nat->Prop)(F:Nat)(X:ByteArray)(d:Int)(rd:Except Nat Val)(w:World)(hET:∀args w,(callFunc F args).run Tryz.prog w=.ok (.enter F args) w)(hrow:Hid (w.heap[b]?=some (.cells cs0 T0 (0,0))))(hcs:cs0[o]?=some v)(hbase:b<base/\base<=w.heap.size)(h:Hid (LsAt vcel 53 base v xs P w))(hl:xs.length<=1000000)(hread:Hid (∀w',Calls Tryz.prog F #[.string X,.int .i64 d] w' (Z9 vcel Z0 rd X.size w'))) :
  Calls Tryz.prog 171 #[.pointer (some ⟨b,o,none⟩),.string X,.int .i64 d,.func (.func F) #[] #[]] w (Yw vcel 53 T0 b o base cs0 xs P rd w):=by
 obtain⟨css,Q,h2,h3,h4,h5,rfl⟩:=h.out;obtain⟨ao,cap,rfl⟩:=zh h2;have H2:=hid h2;have H3:=hid h3;have H4:=hid h4;have H5:=hid h5;have hbw:=z8 hrow.out;clear h h2 h3 h4 h5;go_enter Tryz.func171,Tryz.ntmps171;go_wp2_with fail;refine(hread.out w).mono ?_;intro e w1 hpost;obtain⟨hb1,hcase⟩:=hpost;have HB1:=hid hb1;clear hb1
 cases rd with
 | error c =>
  obtain⟨y,q,rfl,hq,hew⟩:=hcase;obtain⟨T',z,rfl⟩:=hew.iface;have HEW:=hid hew;clear hew;unfold Z0;go_wp2_with fail;go_ret;exact⟨(Upd.of_new HB1.out).trans (Upd.alloc _ _ _),_,rfl,(HEW.out.below (zd _ _)).ec⟩
 | ok x =>
  obtain⟨cs,rfl,hrel⟩:=hcase;have HREL:=hid hrel;obtain⟨k,S,b0,n,lo,ln,lc,mo,mn,mc,I,U,hcs1⟩:=VRel.form hrel;have HCS:=hid hcs1;rw[hcs1];clear hcs1 hrel;go_wp2_with fail;obtain⟨bx,hbx⟩:=nmd (w1.heap.size)
  obtain⟨W2,hW2⟩:∃W,w1.alloc (.cells #[.int .i64 k,.string S,.bool b0,.int .u64 n,.slice lo ln lc,.slice mo mn mc,.string I,.string U] 53)=W:=⟨_,rfl⟩
  have HB2:Hid (Below w1.heap.size w1 W2):=hid (by rw[<-hW2];exact zd _ _);have HX2:Hid (W2.heap[bx]?=some (.cells #[.int .i64 k,.string S,.bool b0,.int .u64 n,.slice lo ln lc,.slice mo mn mc,.string I,.string U] 53 (0,0))):=hid (by rw[<-hW2,<-hbx];exact heap_alloc_new _ _);have HBX:=hid hbx;rw[hW2,hbx];clear hW2 hbx;obtain⟨D,hD⟩:=nmd (W2.drew)
  have HBD:Hid (Below w1.heap.size w1 D):=hid (by rw[<-hD];exact HB2.out.drew);have HXD:Hid (D.heap[bx]?=some (.cells #[.int .i64 k,.string S,.bool b0,.int .u64 n,.slice lo ln lc,.slice mo mn mc,.string I,.string U] 53 (0,0))):=hid (by rw[<-hD];exact HX2.out);have HWD:=hid (zb HB1.out HBD.out);have HLD:Hid (D.heap[b]?=some (.cells cs0 T0 (0,0))):=hid ((HWD.out.block _ hbw).trans hrow.out);have HOD:Hid (D.ownsRow base 53 8 (.slice ao xs.length cap) xs.length css.flatten):=hid (y6 H2.out HWD.out);have hcb:D.cell? ⟨b,o,none⟩=some (.slice ao xs.length cap):=za HLD.out hcs;have hne:Nonempty {w':World // w'.heap[bx]?=some (.cells #[.int .i64 k,.string S,.bool b0,.int .u64 n,.slice lo ln lc,.slice mo mn mc,.string I,.string U] 53 (0,0))}:=⟨⟨_,HXD.out⟩⟩
  have hsz:=HWD.out.size;have hxlt:=z8 HXD.out;refine Yv (S:=fun w'=>w'.heap[bx]?=some (.cells #[.int .i64 k,.string S,.bool b0,.int .u64 n,.slice lo ln lc,.slice mo mn mc,.string I,.string U] 53 (0,0))) (.take 0 (.take 1 (.take 3 (.two 2 5 (.take 4 (.come 5 (.come 6 (.take 7 (.take 9 (.two 8 10 (.come 10 .done) (.come 8 .done))))))) (.come 2 (.take 4 (.come 6 (.take 7 (.take 9 (.two 8 10 (.come 10 .done) (.come 8 .done))))))))))) (by kernel_rfl) (by kernel_rfl) (by kernel_rfl) (by kernel_rfl) (by rw[hD];exact HXD.out) ?_;rw[hD];clear hD
  iterate 2 (refine yu _ rfl (fun K hK=>?_);go_simp;(first|refine hK _ ?_|refine⟨_,fun _ _=>rfl,hK _ ?_⟩);clear hK K)
  refine yu _ rfl (fun K hK=>?_);go_simp;refine⟨.agg #[.int .i64 k,.string S,.bool b0,.int .u64 n,.slice lo ln lc,.slice mo mn mc,.string I,.string U],fun a ha=>by(have e0:=za ha (j:=0) rfl;have e1:=za ha (j:=1) rfl;have e2:=za ha (j:=2) rfl;have e3:=za ha (j:=3) rfl;have e4:=za ha (j:=4) rfl;have e5:=za ha (j:=5) rfl;have e6:=za ha (j:=6) rfl;have e7:=za ha (j:=7) rfl);simp only[e0,e1,e2,e3,e4,e5,e6,e7,Result.andThen];rfl,hK _ ?_⟩;clear hK K;have HXE:Hid ((D.alloc (.cells #[.int .i64 0,.string ⟨#[]⟩,.bool false,.int .u64 0,.slice none 0 0,.slice none 0 0,.string ⟨#[]⟩,.string ⟨#[]⟩] 53)).heap[bx]?=some (.cells #[.int .i64 k,.string S,.bool b0,.int .u64 n,.slice lo ln lc,.slice mo mn mc,.string I,.string U] 53 (0,0))):=hid ((Below.heap_alloc _ _ _ hxlt).trans HXD.out);have hcbE:(D.alloc (.cells #[.int .i64 0,.string ⟨#[]⟩,.bool false,.int .u64 0,.slice none 0 0,.slice none 0 0,.string ⟨#[]⟩,.string ⟨#[]⟩] 53)).cell? ⟨b,o,none⟩=some (.slice ao xs.length cap):=za ((Below.heap_alloc _ _ _ (z8 HLD.out)).trans HLD.out) hcs;refine Y4 _ _ rfl rfl (fun K hK=>?_) (fun K hK=>?_)
  all_goals go_simp
  ·refine hK.out _ _ HXD.out ?_;clear hK K
   (refine yu _ rfl (fun K hK=>?_);go_simp;(first|refine hK _ ?_|refine⟨_,fun _ _=>rfl,hK _ ?_⟩);clear hK K)
   refine qa _ rfl (fun K hK=>?_);go_simp;refine hK.out _ _ HXE.out ?_;clear hK K;refine Z6 _ rfl rfl (fun K hK=>?_);refine Zg _ _ 51 rfl Tryz.elVL (by decide) (HOD.out.alloc _) rfl (b:=D.heap.size) (off:=0) (m:=1) (c:=1) (news:=[.int .i64 0,.string ⟨#[]⟩,.bool false,.int .u64 0,.slice none 0 0,.slice none 0 0,.string ⟨#[]⟩,.string ⟨#[]⟩]) rfl rfl (fun j u hj=>by rw[Nat.zero_add];exact za (heap_alloc_new D _) (by simpa using hj)) (by simp[Value.oneCell']) (by unfold maxLen;omega) (by omega) (by simp;omega) (fun v' w3 hown3 hgrow hnew=>?_);obtain⟨g,cap',hv',hg1,hg2,_,_⟩:=yj hown3 (by omega);subst hv';have hgu:Upd (fun k=>(Value.slice ao xs.length cap).ownBlock=some k) (D.alloc (.cells #[.int .i64 0,.string ⟨#[]⟩,.bool false,.int .u64 0,.slice none 0 0,.slice none 0 0,.string ⟨#[]⟩,.string ⟨#[]⟩] 53)) w3:=Upd.of_grown hgrow;have HGU:=hid hgu;have HO3:=hid hown3;have HNEW:Hid (∀k,(Value.slice (some ⟨g,0,none⟩) (xs.length+1) cap').ownBlock=some k->(Value.slice ao xs.length cap).ownBlock=some k∨k=D.heap.size+1):=hid (fun k hk=>(hnew k hk).imp id (fun h=>by rw[h];exact Array.size_push ..));have HGB:Hid (¬(Value.slice ao xs.length cap).ownBlock=some bx):=hid (fun h=>by have:=(H2.out.lt bx h).2;have:=HB1.out.size;have:=HBX.out;omega);have HGL:Hid (¬(Value.slice ao xs.length cap).ownBlock=some b):=hid (fun h=>by have:=(H2.out.lt b h).1;omega);have HX3:Hid (w3.heap[bx]?=some (.cells #[.int .i64 k,.string S,.bool b0,.int .u64 n,.slice lo ln lc,.slice mo mn mc,.string I,.string U] 53 (0,0))):=hid ((hgu.block bx (z8 HXE.out) HGB.out).trans HXE.out);have HL3:Hid (w3.heap[b]?=some (.cells cs0 T0 (0,0))):=hid ((hgu.block b (by have:=z8 HLD.out;simp;omega) HGL.out).trans ((Below.heap_alloc _ _ _ (z8 HLD.out)).trans HLD.out));refine hK.out _ _ HX3.out ?_;clear hK K;clear hgu hown3 hnew hgrow;refine yu _ rfl (fun K hK=>?_);go_simp;refine⟨.pointer (some ⟨g,xs.length*8,none⟩),fun _ _=>if_pos (by omega),hK _ ?_⟩;clear hK K
   (refine yu _ rfl (fun K hK=>?_);go_simp;(first|refine hK _ ?_|refine⟨_,fun _ _=>rfl,hK _ ?_⟩);clear hK K)
   have hgb:g≠b:=by omega
   have hbxb:bx≠b:=by have:=HBX.out;have:=HB1.out.size;omega
   have hgx:g≠bx:=fun e=>by
    rcases HNEW.out g rfl with h|h
    ·exact HGB.out (e ▸ h)
    ·omega
   have HFL:Hid (css.flatten.length=xs.length*8):=hid (Ko vcel H3.out H4.out);have hth:∀(W:World) (ys:List Value),W.ownsRow base 53 8 (.slice (some ⟨g,0,none⟩) (xs.length+1) cap') (xs.length+1) ys->ys.length=xs.length*8+8->W.there g (xs.length*8) 8:=fun W ys ho hy j hj=>⟨by rw[ho.cellAt (xs.length*8+j) (by omega)];simp;omega,ho.frozenAt _⟩
   refine Y4 _ _ rfl rfl (fun K hK=>?_) (fun K hK=>?_)
   ·rw[if_pos (by rfl)]
    refine wp_store_mid 53 _ _ rfl g (xs.length*8) #[.int .i64 k,.string S,.bool b0,.int .u64 n,.slice lo ln lc,.slice mo mn mc,.string I,.string U] (by rfl) (by rfl) (hth _ _ HO3.out (by rw[List.length_append,HFL.out];rfl)) (by rfl) (by simp[Value.oneCell']) ?_;obtain⟨W4,hW4⟩:∃W,w3.setCells g (xs.length*8) (#[.int .i64 k,.string S,.bool b0,.int .u64 n,.slice lo ln lc,.slice mo mn mc,.string I,.string U]:Array Value).toList=W:=⟨_,rfl⟩
    have hset:=qm (#[.int .i64 k,.string S,.bool b0,.int .u64 n,.slice lo ln lc,.slice mo mn mc,.string I,.string U]:Array Value).toList (xs.length*8) w3 _ HO3.out;rw[qy _ _ _ HFL.out (by rfl),hW4]at hset;rw[hW4];obtain⟨ho4,hu4⟩:=hset;clear hW4;have HO4:=hid ho4;have HU4:=hid hu4;have HX4:Hid (W4.heap[bx]?=some (.cells #[.int .i64 k,.string S,.bool b0,.int .u64 n,.slice lo ln lc,.slice mo mn mc,.string I,.string U] 53 (0,0))):=hid ((hu4.block bx (z8 HX3.out) (fun e=>hgx e.symm)).trans HX3.out);have HL4:Hid (W4.heap[b]?=some (.cells cs0 T0 (0,0))):=hid ((hu4.block b (z8 HL3.out) (fun e=>hgb e.symm)).trans HL3.out);clear ho4 hu4;refine hK.out _ _ HX4.out ?_;clear hK K;refine qa _ rfl (fun K2 hK2=>?_);have hcb:W4.cell? ⟨b,o,none⟩=some (.slice ao xs.length cap):=za HL4.out hcs;have hfb:W4.frozen? ⟨b,o,none⟩=false:=z7 HL4.out o;go_simp;have hu5:=Upd.set W4 ⟨b,o,none⟩ (.slice (some ⟨g,0,none⟩) (xs.length+1) cap');refine hK2.out _ _ ((hu5.block bx (z8 HX4.out) (fun e=>hbxb e)).trans HX4.out) ?_;clear hK2 K2 hcb hfb;refine je ?_;go_wp2_with fail;go_ret;refine js hbase HB1.out H3.out H4.out H5.out HREL.out (g:=g) (hb0:=fun k hk=>(H2.out.lt k hk).2) (cap':=cap') (W:=W4.setCell ⟨b,o,none⟩ (.slice (some ⟨g,0,none⟩) (xs.length+1) cap')) (ze HL4.out o _) ?_ ?_ ?_
    ·exact HCS.out ▸ hu5.own HO4.out (fun k hk e=>by have e:k=b:=e;have:=(HO4.out.lt k hk).1;omega)
    ·refine((Upd.of_new HBD.out).trans ((Upd.alloc _ _ _).trans (HGU.out.mono fun k _ h => .inr h))).trans' (S':=fun k=>k=g∨k=b) ((HU4.out.mono fun k _ h => .inl h).trans (hu5.mono fun k _ h => .inr h)) (fun k hk h=>?_)
     rcases h with h|h
     ·rcases HNEW.out g rfl with h2|h2
      ·exact .inr (h ▸ h2)
      ·have:=HBD.out.size;omega
     ·exact .inl h
    ·rcases HNEW.out g rfl with h|h
     ·exact .inl h
     ·exact .inr (by have:=HBD.out.size;omega)
   ·have hcb:w3.cell? ⟨b,o,none⟩=some (.slice ao xs.length cap):=za HL3.out hcs
    have hfb:w3.frozen? ⟨b,o,none⟩=false:=z7 HL3.out o;go_simp;obtain⟨W4,hW4⟩:∃W,w3.setCell ⟨b,o,none⟩ (.slice (some ⟨g,0,none⟩) (xs.length+1) cap')=W:=⟨_,rfl⟩
    have hu4:=Upd.set w3 ⟨b,o,none⟩ (.slice (some ⟨g,0,none⟩) (xs.length+1) cap');have hl4:=ze HL3.out o (.slice (some ⟨g,0,none⟩) (xs.length+1) cap');rw[hW4]at hu4 hl4 ⊢;clear hW4 hcb hfb;have HU4:=hid hu4;have HL4:=hid hl4;have HO4:=hid (hu4.own HO3.out (fun k hk e=>by have e:k=b:=e;have:=(HO3.out.lt k hk).1;omega));have HX4:Hid (W4.heap[bx]?=some (.cells #[.int .i64 k,.string S,.bool b0,.int .u64 n,.slice lo ln lc,.slice mo mn mc,.string I,.string U] 53 (0,0))):=hid ((hu4.block bx (z8 HX3.out) (fun e=>hbxb e)).trans HX3.out);clear hu4 hl4;refine hK.out _ _ HX4.out ?_;clear hK K;refine Z6 _ rfl rfl (fun K2 hK2=>?_);refine wp_store_mid 53 _ _ rfl g (xs.length*8) #[.int .i64 k,.string S,.bool b0,.int .u64 n,.slice lo ln lc,.slice mo mn mc,.string I,.string U] (by rfl) (by rfl) (hth _ _ HO4.out (by rw[List.length_append,HFL.out];rfl)) (by rfl) (by simp[Value.oneCell']) ?_;obtain⟨W5,hW5⟩:∃W,W4.setCells g (xs.length*8) (#[.int .i64 k,.string S,.bool b0,.int .u64 n,.slice lo ln lc,.slice mo mn mc,.string I,.string U]:Array Value).toList=W:=⟨_,rfl⟩
    have hset:=qm (#[.int .i64 k,.string S,.bool b0,.int .u64 n,.slice lo ln lc,.slice mo mn mc,.string I,.string U]:Array Value).toList (xs.length*8) W4 _ HO4.out;rw[qy _ _ _ HFL.out (by rfl),hW5]at hset;rw[hW5];obtain⟨ho5,hu5⟩:=hset;clear hW5;refine hK2.out _ _ ((hu5.block bx (z8 HX4.out) (fun e=>hgx e.symm)).trans HX4.out) ?_;clear hK2 K2;refine je ?_;have HO5:=hid ho5;have HU5:=hid hu5;clear ho5 hu5;go_wp2_with fail;go_ret;refine js hbase HB1.out H3.out H4.out H5.out HREL.out (g:=g) (hb0:=fun k hk=>(H2.out.lt k hk).2) (cap':=cap') (W:=W5) ((HU5.out.block b (z8 HL4.out) (fun e=>hgb e.symm)).trans HL4.out) ?_ ?_ ?_
    ·exact HCS.out ▸ HO5.out
    ·refine((Upd.of_new HBD.out).trans ((Upd.alloc _ _ _).trans (HGU.out.mono fun k _ h => .inr h))).trans' (S':=fun k=>k=g∨k=b) ((HU4.out.mono fun k _ h => .inr h).trans (HU5.out.mono fun k _ h => .inl h)) (fun k hk h=>?_)
     rcases h with h|h
     ·rcases HNEW.out g rfl with h2|h2
      ·exact .inr (h ▸ h2)
      ·have:=HBD.out.size;omega
     ·exact .inl h
    ·rcases HNEW.out g rfl with h|h
     ·exact .inl h
     ·exact .inr (by have:=HBD.out.size;omega)
  ·refine hK.out _ _ HXE.out ?_;clear hK K
   refine qa _ rfl (fun K hK=>?_);go_simp;refine hK.out _ _ HXE.out ?_;clear hK K
   (refine yu _ rfl (fun K hK=>?_);go_simp;(first|refine hK _ ?_|refine⟨_,fun _ _=>rfl,hK _ ?_⟩);clear hK K)
   refine Z6 _ rfl rfl (fun K hK=>?_);refine Zg _ _ 51 rfl Tryz.elVL (by decide) (HOD.out.alloc _) rfl (b:=D.heap.size) (off:=0) (m:=1) (c:=1) (news:=[.int .i64 0,.string ⟨#[]⟩,.bool false,.int .u64 0,.slice none 0 0,.slice none 0 0,.string ⟨#[]⟩,.string ⟨#[]⟩]) rfl rfl (fun j u hj=>by rw[Nat.zero_add];exact za (heap_alloc_new D _) (by simpa using hj)) (by simp[Value.oneCell']) (by unfold maxLen;omega) (by omega) (by simp;omega) (fun v' w3 hown3 hgrow hnew=>?_);obtain⟨g,cap',hv',hg1,hg2,_,_⟩:=yj hown3 (by omega);subst hv';have hgu:Upd (fun k=>(Value.slice ao xs.length cap).ownBlock=some k) (D.alloc (.cells #[.int .i64 0,.string ⟨#[]⟩,.bool false,.int .u64 0,.slice none 0 0,.slice none 0 0,.string ⟨#[]⟩,.string ⟨#[]⟩] 53)) w3:=Upd.of_grown hgrow;have HGU:=hid hgu;have HO3:=hid hown3;have HNEW:Hid (∀k,(Value.slice (some ⟨g,0,none⟩) (xs.length+1) cap').ownBlock=some k->(Value.slice ao xs.length cap).ownBlock=some k∨k=D.heap.size+1):=hid (fun k hk=>(hnew k hk).imp id (fun h=>by rw[h];exact Array.size_push ..));have HGB:Hid (¬(Value.slice ao xs.length cap).ownBlock=some bx):=hid (fun h=>by have:=(H2.out.lt bx h).2;have:=HB1.out.size;have:=HBX.out;omega);have HGL:Hid (¬(Value.slice ao xs.length cap).ownBlock=some b):=hid (fun h=>by have:=(H2.out.lt b h).1;omega);have HX3:Hid (w3.heap[bx]?=some (.cells #[.int .i64 k,.string S,.bool b0,.int .u64 n,.slice lo ln lc,.slice mo mn mc,.string I,.string U] 53 (0,0))):=hid ((hgu.block bx (z8 HXE.out) HGB.out).trans HXE.out);have HL3:Hid (w3.heap[b]?=some (.cells cs0 T0 (0,0))):=hid ((hgu.block b (by have:=z8 HLD.out;simp;omega) HGL.out).trans ((Below.heap_alloc _ _ _ (z8 HLD.out)).trans HLD.out));refine hK.out _ _ HX3.out ?_;clear hK K;clear hgu hown3 hnew hgrow;refine yu _ rfl (fun K hK=>?_);go_simp;refine⟨.pointer (some ⟨g,xs.length*8,none⟩),fun _ _=>if_pos (by omega),hK _ ?_⟩;clear hK K
   (refine yu _ rfl (fun K hK=>?_);go_simp;(first|refine hK _ ?_|refine⟨_,fun _ _=>rfl,hK _ ?_⟩);clear hK K)
   have hgb:g≠b:=by omega
   have hbxb:bx≠b:=by have:=HBX.out;have:=HB1.out.size;omega
   have hgx:g≠bx:=fun e=>by
    rcases HNEW.out g rfl with h|h
    ·exact HGB.out (e ▸ h)
    ·omega
   have HFL:Hid (css.flatten.length=xs.length*8):=hid (Ko vcel H3.out H4.out);have hth:∀(W:World) (ys:List Value),W.ownsRow base 53 8 (.slice (some ⟨g,0,none⟩) (xs.length+1) cap') (xs.length+1) ys->ys.length=xs.length*8+8->W.there g (xs.length*8) 8:=fun W ys ho hy j hj=>⟨by rw[ho.cellAt (xs.length*8+j) (by omega)];simp;omega,ho.frozenAt _⟩
   refine Y4 _ _ rfl rfl (fun K hK=>?_) (fun K hK=>?_)
   ·rw[if_pos (by rfl)]
    refine wp_store_mid 53 _ _ rfl g (xs.length*8) #[.int .i64 k,.string S,.bool b0,.int .u64 n,.slice lo ln lc,.slice mo mn mc,.string I,.string U] (by rfl) (by rfl) (hth _ _ HO3.out (by rw[List.length_append,HFL.out];rfl)) (by rfl) (by simp[Value.oneCell']) ?_;obtain⟨W4,hW4⟩:∃W,w3.setCells g (xs.length*8) (#[.int .i64 k,.string S,.bool b0,.int .u64 n,.slice lo ln lc,.slice mo mn mc,.string I,.string U]:Array Value).toList=W:=⟨_,rfl⟩
    have hset:=qm (#[.int .i64 k,.string S,.bool b0,.int .u64 n,.slice lo ln lc,.slice mo mn mc,.string I,.string U]:Array Value).toList (xs.length*8) w3 _ HO3.out;rw[qy _ _ _ HFL.out (by rfl),hW4]at hset;rw[hW4];obtain⟨ho4,hu4⟩:=hset;clear hW4;have HO4:=hid ho4;have HU4:=hid hu4;have HX4:Hid (W4.heap[bx]?=some (.cells #[.int .i64 k,.string S,.bool b0,.int .u64 n,.slice lo ln lc,.slice mo mn mc,.string I,.string U] 53 (0,0))):=hid ((hu4.block bx (z8 HX3.out) (fun e=>hgx e.symm)).trans HX3.out);have HL4:Hid (W4.heap[b]?=some (.cells cs0 T0 (0,0))):=hid ((hu4.block b (z8 HL3.out) (fun e=>hgb e.symm)).trans HL3.out);clear ho4 hu4;refine hK.out _ _ HX4.out ?_;clear hK K;refine qa _ rfl (fun K2 hK2=>?_);have hcb:W4.cell? ⟨b,o,none⟩=some (.slice ao xs.length cap):=za HL4.out hcs;have hfb:W4.frozen? ⟨b,o,none⟩=false:=z7 HL4.out o;go_simp;have hu5:=Upd.set W4 ⟨b,o,none⟩ (.slice (some ⟨g,0,none⟩) (xs.length+1) cap');refine hK2.out _ _ ((hu5.block bx (z8 HX4.out) (fun e=>hbxb e)).trans HX4.out) ?_;clear hK2 K2 hcb hfb;refine je ?_;go_wp2_with fail;go_ret;refine js hbase HB1.out H3.out H4.out H5.out HREL.out (g:=g) (hb0:=fun k hk=>(H2.out.lt k hk).2) (cap':=cap') (W:=W4.setCell ⟨b,o,none⟩ (.slice (some ⟨g,0,none⟩) (xs.length+1) cap')) (ze HL4.out o _) ?_ ?_ ?_
    ·exact HCS.out ▸ hu5.own HO4.out (fun k hk e=>by have e:k=b:=e;have:=(HO4.out.lt k hk).1;omega)
    ·refine((Upd.of_new HBD.out).trans ((Upd.alloc _ _ _).trans (HGU.out.mono fun k _ h => .inr h))).trans' (S':=fun k=>k=g∨k=b) ((HU4.out.mono fun k _ h => .inl h).trans (hu5.mono fun k _ h => .inr h)) (fun k hk h=>?_)
     rcases h with h|h
     ·rcases HNEW.out g rfl with h2|h2
      ·exact .inr (h ▸ h2)
      ·have:=HBD.out.size;omega
     ·exact .inl h
    ·rcases HNEW.out g rfl with h|h
     ·exact .inl h
     ·exact .inr (by have:=HBD.out.size;omega)
   ·have hcb:w3.cell? ⟨b,o,none⟩=some (.slice ao xs.length cap):=za HL3.out hcs
    have hfb:w3.frozen? ⟨b,o,none⟩=false:=z7 HL3.out o;go_simp;obtain⟨W4,hW4⟩:∃W,w3.setCell ⟨b,o,none⟩ (.slice (some ⟨g,0,none⟩) (xs.length+1) cap')=W:=⟨_,rfl⟩
    have hu4:=Upd.set w3 ⟨b,o,none⟩ (.slice (some ⟨g,0,none⟩) (xs.length+1) cap');have hl4:=ze HL3.out o (.slice (some ⟨g,0,none⟩) (xs.length+1) cap');rw[hW4]at hu4 hl4 ⊢;clear hW4 hcb hfb;have HU4:=hid hu4;have HL4:=hid hl4;have HO4:=hid (hu4.own HO3.out (fun k hk e=>by have e:k=b:=e;have:=(HO3.out.lt k hk).1;omega));have HX4:Hid (W4.heap[bx]?=some (.cells #[.int .i64 k,.string S,.bool b0,.int .u64 n,.slice lo ln lc,.slice mo mn mc,.string I,.string U] 53 (0,0))):=hid ((hu4.block bx (z8 HX3.out) (fun e=>hbxb e)).trans HX3.out);clear hu4 hl4;refine hK.out _ _ HX4.out ?_;clear hK K;refine Z6 _ rfl rfl (fun K2 hK2=>?_);refine wp_store_mid 53 _ _ rfl g (xs.length*8) #[.int .i64 k,.string S,.bool b0,.int .u64 n,.slice lo ln lc,.slice mo mn mc,.string I,.string U] (by rfl) (by rfl) (hth _ _ HO4.out (by rw[List.length_append,HFL.out];rfl)) (by rfl) (by simp[Value.oneCell']) ?_;obtain⟨W5,hW5⟩:∃W,W4.setCells g (xs.length*8) (#[.int .i64 k,.string S,.bool b0,.int .u64 n,.slice lo ln lc,.slice mo mn mc,.string I,.string U]:Array Value).toList=W:=⟨_,rfl⟩
    have hset:=qm (#[.int .i64 k,.string S,.bool b0,.int .u64 n,.slice lo ln lc,.slice mo mn mc,.string I,.string U]:Array Value).toList (xs.length*8) W4 _ HO4.out;rw[qy _ _ _ HFL.out (by rfl),hW5]at hset;rw[hW5];obtain⟨ho5,hu5⟩:=hset;clear hW5;refine hK2.out _ _ ((hu5.block bx (z8 HX4.out) (fun e=>hgx e.symm)).trans HX4.out) ?_;clear hK2 K2;refine je ?_;have HO5:=hid ho5;have HU5:=hid hu5;clear ho5 hu5;go_wp2_with fail;go_ret;refine js hbase HB1.out H3.out H4.out H5.out HREL.out (g:=g) (hb0:=fun k hk=>(H2.out.lt k hk).2) (cap':=cap') (W:=W5) ((HU5.out.block b (z8 HL4.out) (fun e=>hgb e.symm)).trans HL4.out) ?_ ?_ ?_
    ·exact HCS.out ▸ HO5.out
    ·refine((Upd.of_new HBD.out).trans ((Upd.alloc _ _ _).trans (HGU.out.mono fun k _ h => .inr h))).trans' (S':=fun k=>k=g∨k=b) ((HU4.out.mono fun k _ h => .inr h).trans (HU5.out.mono fun k _ h => .inl h)) (fun k hk h=>?_)
     rcases h with h|h
     ·rcases HNEW.out g rfl with h2|h2
      ·exact .inr (h ▸ h2)
      ·have:=HBD.out.size;omega
     ·exact .inl h
    ·rcases HNEW.out g rfl with h|h
     ·exact .inl h
     ·exact .inr (by have:=HBD.out.size;omega)
theorem Tryz.elKL:Elem Tryz.prog 23 55 (.agg #[.string ⟨#[]⟩,.bool false,.int .i64 0,.string ⟨#[]⟩,.bool false,.int .u64 0,.slice none 0 0,.slice none 0 0,.string ⟨#[]⟩,.string ⟨#[]⟩,.string ⟨#[]⟩]) 11 160:=⟨Tryz.underlying23,by kernel_rfl,by decide⟩
def kcel:Cel KV where
 R:=KRel
 size:=11
 len:=fun h=>h.len
 upd:=fun hu hs hq h=>KRel.upd hu hs hq _ _ h
 lt:=fun h=>KRel.lt _ _ h
theorem z2b (b o base:Nat)(cs0:Array Value)(T0:TypeId)(v:Value)(xs:List KV)(P:Nat->Prop)(F:Nat)(X:ByteArray)(d:Int)(rd:Except Nat KV)(w:World)(hET:∀args w,(callFunc F args).run Tryz.prog w=.ok (.enter F args) w)(hrow:Hid (w.heap[b]?=some (.cells cs0 T0 (0,0))))(hcs:cs0[o]?=some v)(hbase:b<base/\base<=w.heap.size)(h:Hid (LsAt kcel 55 base v xs P w))(hl:xs.length<=1000000)(hread:Hid (∀w',Calls Tryz.prog F #[.string X,.int .i64 d] w' (Z9 kcel Jy rd X.size w'))) :
  Calls Tryz.prog 56 #[.pointer (some ⟨b,o,none⟩),.string X,.int .i64 d,.func (.func F) #[] #[]] w (Yw kcel 55 T0 b o base cs0 xs P rd w):=by
 obtain⟨css,Q,h2,h3,h4,h5,rfl⟩:=h.out;obtain⟨ao,cap,rfl⟩:=zh h2;have H2:=hid h2;have H3:=hid h3;have H4:=hid h4;have H5:=hid h5;have hbw:=z8 hrow.out;clear h h2 h3 h4 h5;go_enter Tryz.func56,Tryz.ntmps56;go_wp2_with fail;refine(hread.out w).mono ?_;intro e w1 hpost;obtain⟨hb1,hcase⟩:=hpost;have HB1:=hid hb1;clear hb1
 cases rd with
 | error c =>
  obtain⟨y,q,rfl,hq,hew⟩:=hcase;obtain⟨T',z,rfl⟩:=hew.iface;have HEW:=hid hew;clear hew;unfold Jy;go_wp2_with fail;go_ret;exact⟨(Upd.of_new HB1.out).trans (Upd.alloc _ _ _),_,rfl,(HEW.out.below (zd _ _)).ec⟩
 | ok x =>
  obtain⟨cs,rfl,hrel⟩:=hcase;have HREL:=hid hrel;obtain⟨K0,h0,k,S,b0,n,lo,ln,lc,mo,mn,mc,I,U,U0,hcs1⟩:=KRel.form hrel;have HCS:=hid hcs1;rw[hcs1];clear hcs1 hrel;go_wp2_with fail;obtain⟨bx,hbx⟩:=nmd (w1.heap.size)
  obtain⟨W2,hW2⟩:∃W,w1.alloc (.cells #[.string K0,.bool h0,.int .i64 k,.string S,.bool b0,.int .u64 n,.slice lo ln lc,.slice mo mn mc,.string I,.string U,.string U0] 55)=W:=⟨_,rfl⟩
  have HB2:Hid (Below w1.heap.size w1 W2):=hid (by rw[<-hW2];exact zd _ _);have HX2:Hid (W2.heap[bx]?=some (.cells #[.string K0,.bool h0,.int .i64 k,.string S,.bool b0,.int .u64 n,.slice lo ln lc,.slice mo mn mc,.string I,.string U,.string U0] 55 (0,0))):=hid (by rw[<-hW2,<-hbx];exact heap_alloc_new _ _);have HBX:=hid hbx;rw[hW2,hbx];clear hW2 hbx;obtain⟨D,hD⟩:=nmd (W2.drew)
  have HBD:Hid (Below w1.heap.size w1 D):=hid (by rw[<-hD];exact HB2.out.drew);have HXD:Hid (D.heap[bx]?=some (.cells #[.string K0,.bool h0,.int .i64 k,.string S,.bool b0,.int .u64 n,.slice lo ln lc,.slice mo mn mc,.string I,.string U,.string U0] 55 (0,0))):=hid (by rw[<-hD];exact HX2.out);have HWD:=hid (zb HB1.out HBD.out);have HLD:Hid (D.heap[b]?=some (.cells cs0 T0 (0,0))):=hid ((HWD.out.block _ hbw).trans hrow.out);have HOD:Hid (D.ownsRow base 55 11 (.slice ao xs.length cap) xs.length css.flatten):=hid (y6 H2.out HWD.out);have hcb:D.cell? ⟨b,o,none⟩=some (.slice ao xs.length cap):=za HLD.out hcs;have hne:Nonempty {w':World // w'.heap[bx]?=some (.cells #[.string K0,.bool h0,.int .i64 k,.string S,.bool b0,.int .u64 n,.slice lo ln lc,.slice mo mn mc,.string I,.string U,.string U0] 55 (0,0))}:=⟨⟨_,HXD.out⟩⟩
  have hsz:=HWD.out.size;have hxlt:=z8 HXD.out;refine Yv (S:=fun w'=>w'.heap[bx]?=some (.cells #[.string K0,.bool h0,.int .i64 k,.string S,.bool b0,.int .u64 n,.slice lo ln lc,.slice mo mn mc,.string I,.string U,.string U0] 55 (0,0))) (.take 0 (.take 1 (.take 3 (.two 2 5 (.take 4 (.come 5 (.come 6 (.take 7 (.take 9 (.two 8 10 (.come 10 .done) (.come 8 .done))))))) (.come 2 (.take 4 (.come 6 (.take 7 (.take 9 (.two 8 10 (.come 10 .done) (.come 8 .done))))))))))) (by kernel_rfl) (by kernel_rfl) (by kernel_rfl) (by kernel_rfl) (by rw[hD];exact HXD.out) ?_;rw[hD];clear hD
  iterate 2 (refine yu _ rfl (fun K hK=>?_);go_simp;(first|refine hK _ ?_|refine⟨_,fun _ _=>rfl,hK _ ?_⟩);clear hK K)
  refine yu _ rfl (fun K hK=>?_);go_simp;refine⟨.agg #[.string K0,.bool h0,.int .i64 k,.string S,.bool b0,.int .u64 n,.slice lo ln lc,.slice mo mn mc,.string I,.string U,.string U0],fun a ha=>by(have e0:=za ha (j:=0) rfl;have e1:=za ha (j:=1) rfl;have e2:=za ha (j:=2) rfl;have e3:=za ha (j:=3) rfl;have e4:=za ha (j:=4) rfl;have e5:=za ha (j:=5) rfl;have e6:=za ha (j:=6) rfl;have e7:=za ha (j:=7) rfl;have e8:=za ha (j:=8) rfl;have e9:=za ha (j:=9) rfl;have e10:=za ha (j:=10) rfl);simp only[e0,e1,e2,e3,e4,e5,e6,e7,e8,e9,e10,Result.andThen];rfl,hK _ ?_⟩;clear hK K;have HXE:Hid ((D.alloc (.cells #[.string ⟨#[]⟩,.bool false,.int .i64 0,.string ⟨#[]⟩,.bool false,.int .u64 0,.slice none 0 0,.slice none 0 0,.string ⟨#[]⟩,.string ⟨#[]⟩,.string ⟨#[]⟩] 55)).heap[bx]?=some (.cells #[.string K0,.bool h0,.int .i64 k,.string S,.bool b0,.int .u64 n,.slice lo ln lc,.slice mo mn mc,.string I,.string U,.string U0] 55 (0,0))):=hid ((Below.heap_alloc _ _ _ hxlt).trans HXD.out);have hcbE:(D.alloc (.cells #[.string ⟨#[]⟩,.bool false,.int .i64 0,.string ⟨#[]⟩,.bool false,.int .u64 0,.slice none 0 0,.slice none 0 0,.string ⟨#[]⟩,.string ⟨#[]⟩,.string ⟨#[]⟩] 55)).cell? ⟨b,o,none⟩=some (.slice ao xs.length cap):=za ((Below.heap_alloc _ _ _ (z8 HLD.out)).trans HLD.out) hcs;refine Y4 _ _ rfl rfl (fun K hK=>?_) (fun K hK=>?_)
  all_goals go_simp
  ·refine hK.out _ _ HXD.out ?_;clear hK K
   (refine yu _ rfl (fun K hK=>?_);go_simp;(first|refine hK _ ?_|refine⟨_,fun _ _=>rfl,hK _ ?_⟩);clear hK K)
   refine qa _ rfl (fun K hK=>?_);go_simp;refine hK.out _ _ HXE.out ?_;clear hK K;refine Z6 _ rfl rfl (fun K hK=>?_);refine Zg _ _ 23 rfl Tryz.elKL (by decide) (HOD.out.alloc _) rfl (b:=D.heap.size) (off:=0) (m:=1) (c:=1) (news:=[.string ⟨#[]⟩,.bool false,.int .i64 0,.string ⟨#[]⟩,.bool false,.int .u64 0,.slice none 0 0,.slice none 0 0,.string ⟨#[]⟩,.string ⟨#[]⟩,.string ⟨#[]⟩]) rfl rfl (fun j u hj=>by rw[Nat.zero_add];exact za (heap_alloc_new D _) (by simpa using hj)) (by simp[Value.oneCell']) (by unfold maxLen;omega) (by omega) (by simp;omega) (fun v' w3 hown3 hgrow hnew=>?_);obtain⟨g,cap',hv',hg1,hg2,_,_⟩:=yj hown3 (by omega);subst hv';have hgu:Upd (fun k=>(Value.slice ao xs.length cap).ownBlock=some k) (D.alloc (.cells #[.string ⟨#[]⟩,.bool false,.int .i64 0,.string ⟨#[]⟩,.bool false,.int .u64 0,.slice none 0 0,.slice none 0 0,.string ⟨#[]⟩,.string ⟨#[]⟩,.string ⟨#[]⟩] 55)) w3:=Upd.of_grown hgrow;have HGU:=hid hgu;have HO3:=hid hown3;have HNEW:Hid (∀k,(Value.slice (some ⟨g,0,none⟩) (xs.length+1) cap').ownBlock=some k->(Value.slice ao xs.length cap).ownBlock=some k∨k=D.heap.size+1):=hid (fun k hk=>(hnew k hk).imp id (fun h=>by rw[h];exact Array.size_push ..));have HGB:Hid (¬(Value.slice ao xs.length cap).ownBlock=some bx):=hid (fun h=>by have:=(H2.out.lt bx h).2;have:=HB1.out.size;have:=HBX.out;omega);have HGL:Hid (¬(Value.slice ao xs.length cap).ownBlock=some b):=hid (fun h=>by have:=(H2.out.lt b h).1;omega);have HX3:Hid (w3.heap[bx]?=some (.cells #[.string K0,.bool h0,.int .i64 k,.string S,.bool b0,.int .u64 n,.slice lo ln lc,.slice mo mn mc,.string I,.string U,.string U0] 55 (0,0))):=hid ((hgu.block bx (z8 HXE.out) HGB.out).trans HXE.out);have HL3:Hid (w3.heap[b]?=some (.cells cs0 T0 (0,0))):=hid ((hgu.block b (by have:=z8 HLD.out;simp;omega) HGL.out).trans ((Below.heap_alloc _ _ _ (z8 HLD.out)).trans HLD.out));refine hK.out _ _ HX3.out ?_;clear hK K;clear hgu hown3 hnew hgrow;refine yu _ rfl (fun K hK=>?_);go_simp;refine⟨.pointer (some ⟨g,xs.length*11,none⟩),fun _ _=>if_pos (by omega),hK _ ?_⟩;clear hK K
   (refine yu _ rfl (fun K hK=>?_);go_simp;(first|refine hK _ ?_|refine⟨_,fun _ _=>rfl,hK _ ?_⟩);clear hK K)
   have hgb:g≠b:=by omega
   have hbxb:bx≠b:=by have:=HBX.out;have:=HB1.out.size;omega
   have hgx:g≠bx:=fun e=>by
    rcases HNEW.out g rfl with h|h
    ·exact HGB.out (e ▸ h)
    ·omega
   have HFL:Hid (css.flatten.length=xs.length*11):=hid (Ko kcel H3.out H4.out);have hth:∀(W:World) (ys:List Value),W.ownsRow base 55 11 (.slice (some ⟨g,0,none⟩) (xs.length+1) cap') (xs.length+1) ys->ys.length=xs.length*11+11->W.there g (xs.length*11) 11:=fun W ys ho hy j hj=>⟨by rw[ho.cellAt (xs.length*11+j) (by omega)];simp;omega,ho.frozenAt _⟩
   refine Y4 _ _ rfl rfl (fun K hK=>?_) (fun K hK=>?_)
   ·rw[if_pos (by rfl)]
    refine wp_store_mid 55 _ _ rfl g (xs.length*11) #[.string K0,.bool h0,.int .i64 k,.string S,.bool b0,.int .u64 n,.slice lo ln lc,.slice mo mn mc,.string I,.string U,.string U0] (by rfl) (by rfl) (hth _ _ HO3.out (by rw[List.length_append,HFL.out];rfl)) (by rfl) (by simp[Value.oneCell']) ?_;obtain⟨W4,hW4⟩:∃W,w3.setCells g (xs.length*11) (#[.string K0,.bool h0,.int .i64 k,.string S,.bool b0,.int .u64 n,.slice lo ln lc,.slice mo mn mc,.string I,.string U,.string U0]:Array Value).toList=W:=⟨_,rfl⟩
    have hset:=qm (#[.string K0,.bool h0,.int .i64 k,.string S,.bool b0,.int .u64 n,.slice lo ln lc,.slice mo mn mc,.string I,.string U,.string U0]:Array Value).toList (xs.length*11) w3 _ HO3.out;rw[qy _ _ _ HFL.out (by rfl),hW4]at hset;rw[hW4];obtain⟨ho4,hu4⟩:=hset;clear hW4;have HO4:=hid ho4;have HU4:=hid hu4;have HX4:Hid (W4.heap[bx]?=some (.cells #[.string K0,.bool h0,.int .i64 k,.string S,.bool b0,.int .u64 n,.slice lo ln lc,.slice mo mn mc,.string I,.string U,.string U0] 55 (0,0))):=hid ((hu4.block bx (z8 HX3.out) (fun e=>hgx e.symm)).trans HX3.out);have HL4:Hid (W4.heap[b]?=some (.cells cs0 T0 (0,0))):=hid ((hu4.block b (z8 HL3.out) (fun e=>hgb e.symm)).trans HL3.out);clear ho4 hu4;refine hK.out _ _ HX4.out ?_;clear hK K;refine qa _ rfl (fun K2 hK2=>?_);have hcb:W4.cell? ⟨b,o,none⟩=some (.slice ao xs.length cap):=za HL4.out hcs;have hfb:W4.frozen? ⟨b,o,none⟩=false:=z7 HL4.out o;go_simp;have hu5:=Upd.set W4 ⟨b,o,none⟩ (.slice (some ⟨g,0,none⟩) (xs.length+1) cap');refine hK2.out _ _ ((hu5.block bx (z8 HX4.out) (fun e=>hbxb e)).trans HX4.out) ?_;clear hK2 K2 hcb hfb;refine je ?_;go_wp2_with fail;go_ret;refine js hbase HB1.out H3.out H4.out H5.out HREL.out (g:=g) (hb0:=fun k hk=>(H2.out.lt k hk).2) (cap':=cap') (W:=W4.setCell ⟨b,o,none⟩ (.slice (some ⟨g,0,none⟩) (xs.length+1) cap')) (ze HL4.out o _) ?_ ?_ ?_
    ·exact HCS.out ▸ hu5.own HO4.out (fun k hk e=>by have e:k=b:=e;have:=(HO4.out.lt k hk).1;omega)
    ·refine((Upd.of_new HBD.out).trans ((Upd.alloc _ _ _).trans (HGU.out.mono fun k _ h => .inr h))).trans' (S':=fun k=>k=g∨k=b) ((HU4.out.mono fun k _ h => .inl h).trans (hu5.mono fun k _ h => .inr h)) (fun k hk h=>?_)
     rcases h with h|h
     ·rcases HNEW.out g rfl with h2|h2
      ·exact .inr (h ▸ h2)
      ·have:=HBD.out.size;omega
     ·exact .inl h
    ·rcases HNEW.out g rfl with h|h
     ·exact .inl h
     ·exact .inr (by have:=HBD.out.size;omega)
   ·have hcb:w3.cell? ⟨b,o,none⟩=some (.slice ao xs.length cap):=za HL3.out hcs
    have hfb:w3.frozen? ⟨b,o,none⟩=false:=z7 HL3.out o;go_simp;obtain⟨W4,hW4⟩:∃W,w3.setCell ⟨b,o,none⟩ (.slice (some ⟨g,0,none⟩) (xs.length+1) cap')=W:=⟨_,rfl⟩
    have hu4:=Upd.set w3 ⟨b,o,none⟩ (.slice (some ⟨g,0,none⟩) (xs.length+1) cap');have hl4:=ze HL3.out o (.slice (some ⟨g,0,none⟩) (xs.length+1) cap');rw[hW4]at hu4 hl4 ⊢;clear hW4 hcb hfb;have HU4:=hid hu4;have HL4:=hid hl4;have HO4:=hid (hu4.own HO3.out (fun k hk e=>by have e:k=b:=e;have:=(HO3.out.lt k hk).1;omega));have HX4:Hid (W4.heap[bx]?=some (.cells #[.string K0,.bool h0,.int .i64 k,.string S,.bool b0,.int .u64 n,.slice lo ln lc,.slice mo mn mc,.string I,.string U,.string U0] 55 (0,0))):=hid ((hu4.block bx (z8 HX3.out) (fun e=>hbxb e)).trans HX3.out);clear hu4 hl4;refine hK.out _ _ HX4.out ?_;clear hK K;refine Z6 _ rfl rfl (fun K2 hK2=>?_);refine wp_store_mid 55 _ _ rfl g (xs.length*11) #[.string K0,.bool h0,.int .i64 k,.string S,.bool b0,.int .u64 n,.slice lo ln lc,.slice mo mn mc,.string I,.string U,.string U0] (by rfl) (by rfl) (hth _ _ HO4.out (by rw[List.length_append,HFL.out];rfl)) (by rfl) (by simp[Value.oneCell']) ?_;obtain⟨W5,hW5⟩:∃W,W4.setCells g (xs.length*11) (#[.string K0,.bool h0,.int .i64 k,.string S,.bool b0,.int .u64 n,.slice lo ln lc,.slice mo mn mc,.string I,.string U,.string U0]:Array Value).toList=W:=⟨_,rfl⟩
    have hset:=qm (#[.string K0,.bool h0,.int .i64 k,.string S,.bool b0,.int .u64 n,.slice lo ln lc,.slice mo mn mc,.string I,.string U,.string U0]:Array Value).toList (xs.length*11) W4 _ HO4.out;rw[qy _ _ _ HFL.out (by rfl),hW5]at hset;rw[hW5];obtain⟨ho5,hu5⟩:=hset;clear hW5;refine hK2.out _ _ ((hu5.block bx (z8 HX4.out) (fun e=>hgx e.symm)).trans HX4.out) ?_;clear hK2 K2;refine je ?_;have HO5:=hid ho5;have HU5:=hid hu5;clear ho5 hu5;go_wp2_with fail;go_ret;refine js hbase HB1.out H3.out H4.out H5.out HREL.out (g:=g) (hb0:=fun k hk=>(H2.out.lt k hk).2) (cap':=cap') (W:=W5) ((HU5.out.block b (z8 HL4.out) (fun e=>hgb e.symm)).trans HL4.out) ?_ ?_ ?_
    ·exact HCS.out ▸ HO5.out
    ·refine((Upd.of_new HBD.out).trans ((Upd.alloc _ _ _).trans (HGU.out.mono fun k _ h => .inr h))).trans' (S':=fun k=>k=g∨k=b) ((HU4.out.mono fun k _ h => .inr h).trans (HU5.out.mono fun k _ h => .inl h)) (fun k hk h=>?_)
     rcases h with h|h
     ·rcases HNEW.out g rfl with h2|h2
      ·exact .inr (h ▸ h2)
      ·have:=HBD.out.size;omega
     ·exact .inl h
    ·rcases HNEW.out g rfl with h|h
     ·exact .inl h
     ·exact .inr (by have:=HBD.out.size;omega)
  ·refine hK.out _ _ HXE.out ?_;clear hK K
   refine qa _ rfl (fun K hK=>?_);go_simp;refine hK.out _ _ HXE.out ?_;clear hK K
   (refine yu _ rfl (fun K hK=>?_);go_simp;(first|refine hK _ ?_|refine⟨_,fun _ _=>rfl,hK _ ?_⟩);clear hK K)
   refine Z6 _ rfl rfl (fun K hK=>?_);refine Zg _ _ 23 rfl Tryz.elKL (by decide) (HOD.out.alloc _) rfl (b:=D.heap.size) (off:=0) (m:=1) (c:=1) (news:=[.string ⟨#[]⟩,.bool false,.int .i64 0,.string ⟨#[]⟩,.bool false,.int .u64 0,.slice none 0 0,.slice none 0 0,.string ⟨#[]⟩,.string ⟨#[]⟩,.string ⟨#[]⟩]) rfl rfl (fun j u hj=>by rw[Nat.zero_add];exact za (heap_alloc_new D _) (by simpa using hj)) (by simp[Value.oneCell']) (by unfold maxLen;omega) (by omega) (by simp;omega) (fun v' w3 hown3 hgrow hnew=>?_);obtain⟨g,cap',hv',hg1,hg2,_,_⟩:=yj hown3 (by omega);subst hv';have hgu:Upd (fun k=>(Value.slice ao xs.length cap).ownBlock=some k) (D.alloc (.cells #[.string ⟨#[]⟩,.bool false,.int .i64 0,.string ⟨#[]⟩,.bool false,.int .u64 0,.slice none 0 0,.slice none 0 0,.string ⟨#[]⟩,.string ⟨#[]⟩,.string ⟨#[]⟩] 55)) w3:=Upd.of_grown hgrow;have HGU:=hid hgu;have HO3:=hid hown3;have HNEW:Hid (∀k,(Value.slice (some ⟨g,0,none⟩) (xs.length+1) cap').ownBlock=some k->(Value.slice ao xs.length cap).ownBlock=some k∨k=D.heap.size+1):=hid (fun k hk=>(hnew k hk).imp id (fun h=>by rw[h];exact Array.size_push ..));have HGB:Hid (¬(Value.slice ao xs.length cap).ownBlock=some bx):=hid (fun h=>by have:=(H2.out.lt bx h).2;have:=HB1.out.size;have:=HBX.out;omega);have HGL:Hid (¬(Value.slice ao xs.length cap).ownBlock=some b):=hid (fun h=>by have:=(H2.out.lt b h).1;omega);have HX3:Hid (w3.heap[bx]?=some (.cells #[.string K0,.bool h0,.int .i64 k,.string S,.bool b0,.int .u64 n,.slice lo ln lc,.slice mo mn mc,.string I,.string U,.string U0] 55 (0,0))):=hid ((hgu.block bx (z8 HXE.out) HGB.out).trans HXE.out);have HL3:Hid (w3.heap[b]?=some (.cells cs0 T0 (0,0))):=hid ((hgu.block b (by have:=z8 HLD.out;simp;omega) HGL.out).trans ((Below.heap_alloc _ _ _ (z8 HLD.out)).trans HLD.out));refine hK.out _ _ HX3.out ?_;clear hK K;clear hgu hown3 hnew hgrow;refine yu _ rfl (fun K hK=>?_);go_simp;refine⟨.pointer (some ⟨g,xs.length*11,none⟩),fun _ _=>if_pos (by omega),hK _ ?_⟩;clear hK K
   (refine yu _ rfl (fun K hK=>?_);go_simp;(first|refine hK _ ?_|refine⟨_,fun _ _=>rfl,hK _ ?_⟩);clear hK K)
   have hgb:g≠b:=by omega
   have hbxb:bx≠b:=by have:=HBX.out;have:=HB1.out.size;omega
   have hgx:g≠bx:=fun e=>by
    rcases HNEW.out g rfl with h|h
    ·exact HGB.out (e ▸ h)
    ·omega
   have HFL:Hid (css.flatten.length=xs.length*11):=hid (Ko kcel H3.out H4.out);have hth:∀(W:World) (ys:List Value),W.ownsRow base 55 11 (.slice (some ⟨g,0,none⟩) (xs.length+1) cap') (xs.length+1) ys->ys.length=xs.length*11+11->W.there g (xs.length*11) 11:=fun W ys ho hy j hj=>⟨by rw[ho.cellAt (xs.length*11+j) (by omega)];simp;omega,ho.frozenAt _⟩
   refine Y4 _ _ rfl rfl (fun K hK=>?_) (fun K hK=>?_)
   ·rw[if_pos (by rfl)]
    refine wp_store_mid 55 _ _ rfl g (xs.length*11) #[.string K0,.bool h0,.int .i64 k,.string S,.bool b0,.int .u64 n,.slice lo ln lc,.slice mo mn mc,.string I,.string U,.string U0] (by rfl) (by rfl) (hth _ _ HO3.out (by rw[List.length_append,HFL.out];rfl)) (by rfl) (by simp[Value.oneCell']) ?_;obtain⟨W4,hW4⟩:∃W,w3.setCells g (xs.length*11) (#[.string K0,.bool h0,.int .i64 k,.string S,.bool b0,.int .u64 n,.slice lo ln lc,.slice mo mn mc,.string I,.string U,.string U0]:Array Value).toList=W:=⟨_,rfl⟩
    have hset:=qm (#[.string K0,.bool h0,.int .i64 k,.string S,.bool b0,.int .u64 n,.slice lo ln lc,.slice mo mn mc,.string I,.string U,.string U0]:Array Value).toList (xs.length*11) w3 _ HO3.out;rw[qy _ _ _ HFL.out (by rfl),hW4]at hset;rw[hW4];obtain⟨ho4,hu4⟩:=hset;clear hW4;have HO4:=hid ho4;have HU4:=hid hu4;have HX4:Hid (W4.heap[bx]?=some (.cells #[.string K0,.bool h0,.int .i64 k,.string S,.bool b0,.int .u64 n,.slice lo ln lc,.slice mo mn mc,.string I,.string U,.string U0] 55 (0,0))):=hid ((hu4.block bx (z8 HX3.out) (fun e=>hgx e.symm)).trans HX3.out);have HL4:Hid (W4.heap[b]?=some (.cells cs0 T0 (0,0))):=hid ((hu4.block b (z8 HL3.out) (fun e=>hgb e.symm)).trans HL3.out);clear ho4 hu4;refine hK.out _ _ HX4.out ?_;clear hK K;refine qa _ rfl (fun K2 hK2=>?_);have hcb:W4.cell? ⟨b,o,none⟩=some (.slice ao xs.length cap):=za HL4.out hcs;have hfb:W4.frozen? ⟨b,o,none⟩=false:=z7 HL4.out o;go_simp;have hu5:=Upd.set W4 ⟨b,o,none⟩ (.slice (some ⟨g,0,none⟩) (xs.length+1) cap');refine hK2.out _ _ ((hu5.block bx (z8 HX4.out) (fun e=>hbxb e)).trans HX4.out) ?_;clear hK2 K2 hcb hfb;refine je ?_;go_wp2_with fail;go_ret;refine js hbase HB1.out H3.out H4.out H5.out HREL.out (g:=g) (hb0:=fun k hk=>(H2.out.lt k hk).2) (cap':=cap') (W:=W4.setCell ⟨b,o,none⟩ (.slice (some ⟨g,0,none⟩) (xs.length+1) cap')) (ze HL4.out o _) ?_ ?_ ?_
    ·exact HCS.out ▸ hu5.own HO4.out (fun k hk e=>by have e:k=b:=e;have:=(HO4.out.lt k hk).1;omega)
    ·refine((Upd.of_new HBD.out).trans ((Upd.alloc _ _ _).trans (HGU.out.mono fun k _ h => .inr h))).trans' (S':=fun k=>k=g∨k=b) ((HU4.out.mono fun k _ h => .inl h).trans (hu5.mono fun k _ h => .inr h)) (fun k hk h=>?_)
     rcases h with h|h
     ·rcases HNEW.out g rfl with h2|h2
      ·exact .inr (h ▸ h2)
      ·have:=HBD.out.size;omega
     ·exact .inl h
    ·rcases HNEW.out g rfl with h|h
     ·exact .inl h
     ·exact .inr (by have:=HBD.out.size;omega)
   ·have hcb:w3.cell? ⟨b,o,none⟩=some (.slice ao xs.length cap):=za HL3.out hcs
    have hfb:w3.frozen? ⟨b,o,none⟩=false:=z7 HL3.out o;go_simp;obtain⟨W4,hW4⟩:∃W,w3.setCell ⟨b,o,none⟩ (.slice (some ⟨g,0,none⟩) (xs.length+1) cap')=W:=⟨_,rfl⟩
    have hu4:=Upd.set w3 ⟨b,o,none⟩ (.slice (some ⟨g,0,none⟩) (xs.length+1) cap');have hl4:=ze HL3.out o (.slice (some ⟨g,0,none⟩) (xs.length+1) cap');rw[hW4]at hu4 hl4 ⊢;clear hW4 hcb hfb;have HU4:=hid hu4;have HL4:=hid hl4;have HO4:=hid (hu4.own HO3.out (fun k hk e=>by have e:k=b:=e;have:=(HO3.out.lt k hk).1;omega));have HX4:Hid (W4.heap[bx]?=some (.cells #[.string K0,.bool h0,.int .i64 k,.string S,.bool b0,.int .u64 n,.slice lo ln lc,.slice mo mn mc,.string I,.string U,.string U0] 55 (0,0))):=hid ((hu4.block bx (z8 HX3.out) (fun e=>hbxb e)).trans HX3.out);clear hu4 hl4;refine hK.out _ _ HX4.out ?_;clear hK K;refine Z6 _ rfl rfl (fun K2 hK2=>?_);refine wp_store_mid 55 _ _ rfl g (xs.length*11) #[.string K0,.bool h0,.int .i64 k,.string S,.bool b0,.int .u64 n,.slice lo ln lc,.slice mo mn mc,.string I,.string U,.string U0] (by rfl) (by rfl) (hth _ _ HO4.out (by rw[List.length_append,HFL.out];rfl)) (by rfl) (by simp[Value.oneCell']) ?_;obtain⟨W5,hW5⟩:∃W,W4.setCells g (xs.length*11) (#[.string K0,.bool h0,.int .i64 k,.string S,.bool b0,.int .u64 n,.slice lo ln lc,.slice mo mn mc,.string I,.string U,.string U0]:Array Value).toList=W:=⟨_,rfl⟩
    have hset:=qm (#[.string K0,.bool h0,.int .i64 k,.string S,.bool b0,.int .u64 n,.slice lo ln lc,.slice mo mn mc,.string I,.string U,.string U0]:Array Value).toList (xs.length*11) W4 _ HO4.out;rw[qy _ _ _ HFL.out (by rfl),hW5]at hset;rw[hW5];obtain⟨ho5,hu5⟩:=hset;clear hW5;refine hK2.out _ _ ((hu5.block bx (z8 HX4.out) (fun e=>hgx e.symm)).trans HX4.out) ?_;clear hK2 K2;refine je ?_;have HO5:=hid ho5;have HU5:=hid hu5;clear ho5 hu5;go_wp2_with fail;go_ret;refine js hbase HB1.out H3.out H4.out H5.out HREL.out (g:=g) (hb0:=fun k hk=>(H2.out.lt k hk).2) (cap':=cap') (W:=W5) ((HU5.out.block b (z8 HL4.out) (fun e=>hgb e.symm)).trans HL4.out) ?_ ?_ ?_
    ·exact HCS.out ▸ HO5.out
    ·refine((Upd.of_new HBD.out).trans ((Upd.alloc _ _ _).trans (HGU.out.mono fun k _ h => .inr h))).trans' (S':=fun k=>k=g∨k=b) ((HU4.out.mono fun k _ h => .inr h).trans (HU5.out.mono fun k _ h => .inl h)) (fun k hk h=>?_)
     rcases h with h|h
     ·rcases HNEW.out g rfl with h2|h2
      ·exact .inr (h ▸ h2)
      ·have:=HBD.out.size;omega
     ·exact .inl h
    ·rcases HNEW.out g rfl with h|h
     ·exact .inl h
     ·exact .inr (by have:=HBD.out.size;omega)
def X0 (rd:Except Nat Val)(n:Nat)(w:World)(e:Ending)(w':World):Prop:=Below w.heap.size w w'/\match rd with
 | .error c=>∃v q,e=.returned (.tuple #[.agg Z0,v])/\q<=n/\EW w' v q c
 | .ok x=>∃cs,e=.returned (.tuple #[.agg cs.toArray,.nilIface])/\VRel w' (fun k=>w.heap.size<=k) x cs
def VLAt (b:Nat)(xs:List Val)(P:Nat->Prop)(w:World):Prop:=∃(v:Value) (css:List (List Value)) (Q:Nat->Prop),w.heap[b]?=some (.cells #[v] 51 (0,0))/\w.ownsRow (b+1) 53 8 v xs.length css.flatten/\css.length=xs.length/\(∀j (h1:j<xs.length) (h2:j<css.length),VRel w Q xs[j] css[j])/\(∀k,Q k->k<w.heap.size/\b+1<=k/\v.ownBlock≠some k)/\P=fun k=>k=b∨v.ownBlock=some k∨Q k
def zea (b:Nat)(xs:List Val)(P:Nat->Prop)(rd:Except Nat Val)(w:World)(e:Ending)(w':World):Prop:=Upd P w w'/\match rd with
 | .error c=>∃y,e=.returned y/\EC w' y c
 | .ok x=>e=.returned .nilIface/\∃P',VLAt b (xs++[x]) P' w'/\∀k,P' k->P k∨w.heap.size<=k
theorem ze9 {rd:Except Nat Val}{n:Nat}{w w':World}{e:Ending}(h:X0 rd n w e w'):Z9 vcel Z0 rd n w e w':=by cases rd<;>exact h
theorem zfq (b:Nat)(xs:List Val)(P:Nat->Prop)(F:Nat)(X:ByteArray)(d:Int)(rd:Except Nat Val)(w:World)(hET:∀args w,(callFunc F args).run Tryz.prog w=.ok (.enter F args) w)(h:Hid (VLAt b xs P w))(hl:xs.length<=1000000)(hread:Hid (∀w',Calls Tryz.prog F #[.string X,.int .i64 d] w' (X0 rd X.size w'))) :
  Calls Tryz.prog 171 #[.pointer (some ⟨b,0,none⟩),.string X,.int .i64 d,.func (.func F) #[] #[]] w (zea b xs P rd w):=by
 obtain⟨v,css,Q,h1,h2,h3,h4,h5,rfl⟩:=h.out;refine(zg4 b 0 (b+1) #[v] 51 v xs (fun k=>v.ownBlock=some k∨Q k) F X d rd w hET (hid h1) rfl ⟨Nat.lt_succ_self _,z8 h1⟩ (hid ⟨css,Q,h2,h3,h4,h5,rfl⟩) hl (hid fun w'=>(hread.out w').mono fun _ _ h=>ze9 h)).mono ?_;rintro e w' ⟨hu,hcase⟩;refine⟨hu,?_⟩
 cases rd with
 | error c=>exact hcase
 | ok x =>
  obtain⟨rfl,v',P',g1,⟨css',Q',g2,g3,g4,g5,rfl⟩,g6⟩:=hcase;refine⟨rfl,_,⟨v',css',Q',g1,g2,g3,g4,g5,rfl⟩,fun k hk=>?_⟩
  rcases hk with hk|hk
  ·exact .inl (.inl hk)
  ·exact(g6 k hk).imp .inr id
def Qy (rd:Except Nat KV)(n:Nat)(w:World)(e:Ending)(w':World):Prop:=Below w.heap.size w w'/\match rd with
 | .error c=>∃v q,e=.returned (.tuple #[.agg Jy,v])/\q<=n/\EW w' v q c
 | .ok x=>∃cs,e=.returned (.tuple #[.agg cs.toArray,.nilIface])/\KRel w' (fun k=>w.heap.size<=k) x cs
def KLAt (b:Nat)(xs:List KV)(P:Nat->Prop)(w:World):Prop:=∃(v:Value) (css:List (List Value)) (Q:Nat->Prop),w.heap[b]?=some (.cells #[v] 23 (0,0))/\w.ownsRow (b+1) 55 11 v xs.length css.flatten/\css.length=xs.length/\(∀j (h1:j<xs.length) (h2:j<css.length),KRel w Q xs[j] css[j])/\(∀k,Q k->k<w.heap.size/\b+1<=k/\v.ownBlock≠some k)/\P=fun k=>k=b∨v.ownBlock=some k∨Q k
def ze8 (b:Nat)(xs:List KV)(P:Nat->Prop)(rd:Except Nat KV)(w:World)(e:Ending)(w':World):Prop:=Upd P w w'/\match rd with
 | .error c=>∃y,e=.returned y/\EC w' y c
 | .ok x=>e=.returned .nilIface/\∃P',KLAt b (xs++[x]) P' w'/\∀k,P' k->P k∨w.heap.size<=k
theorem z6q {rd:Except Nat KV}{n:Nat}{w w':World}{e:Ending}(h:Qy rd n w e w'):Z9 kcel Jy rd n w e w':=by cases rd<;>exact h
theorem zfu (b:Nat)(xs:List KV)(P:Nat->Prop)(F:Nat)(X:ByteArray)(d:Int)(rd:Except Nat KV)(w:World)(hET:∀args w,(callFunc F args).run Tryz.prog w=.ok (.enter F args) w)(h:Hid (KLAt b xs P w))(hl:xs.length<=1000000)(hread:Hid (∀w',Calls Tryz.prog F #[.string X,.int .i64 d] w' (Qy rd X.size w'))) :
  Calls Tryz.prog 56 #[.pointer (some ⟨b,0,none⟩),.string X,.int .i64 d,.func (.func F) #[] #[]] w (ze8 b xs P rd w):=by
 obtain⟨v,css,Q,h1,h2,h3,h4,h5,rfl⟩:=h.out;refine(z2b b 0 (b+1) #[v] 23 v xs (fun k=>v.ownBlock=some k∨Q k) F X d rd w hET (hid h1) rfl ⟨Nat.lt_succ_self _,z8 h1⟩ (hid ⟨css,Q,h2,h3,h4,h5,rfl⟩) hl (hid fun w'=>(hread.out w').mono fun _ _ h=>z6q h)).mono ?_;rintro e w' ⟨hu,hcase⟩;refine⟨hu,?_⟩
 cases rd with
 | error c=>exact hcase
 | ok x =>
  obtain⟨rfl,v',P',g1,⟨css',Q',g2,g3,g4,g5,rfl⟩,g6⟩:=hcase;refine⟨rfl,_,⟨v',css',Q',g1,g2,g3,g4,g5,rfl⟩,fun k hk=>?_⟩
  rcases hk with hk|hk
  ·exact .inl (.inl hk)
  ·exact(g6 k hk).imp .inr id
theorem Qz {α:Type}{rd:List UInt8->Int->Except Nat α}{d e:Int}:∀(rs:List Rec) {xs ys:List α},(∀r∈rs,zt e r)->zg itk (yc rd d) xs rs=.ok ys->ys.length<=xs.length+(rs.flatMap Rec.raw).length
 | [],xs,ys,_,h=>by
  simp only[zg,Except.ok.injEq]at h
  subst h;omega
 | r :: rs,xs,ys,hr,h=>by
  rw[zg]at h;rw[List.flatMap_cons,List.length_append];have h1:=q5 (hr r (List.mem_cons_self ..));have hrs:=fun z hz=>hr z (List.mem_cons_of_mem _ hz)
  split at h
  ·unfold yc at h
   split at h
   ·cases h
   ·rename_i st' heq
    split at heq
    ·cases heq
    ·simp only[Except.ok.injEq]at heq
     subst heq;have ih:=Qz rs hrs h;rw[List.length_append,List.length_singleton]at ih;omega
  ·have ih:=Qz rs hrs h
   omega
def VLS (b bd bf:Nat)(d:Int)(F:Nat)(xs:List Val)(P:Nat->Prop)(w:World):Prop:=∃P0,VLAt b xs P0 w/\¬P0 bd/\¬P0 bf/\w.heap[bd]?=some (.cells #[.int .i64 d] 3 (0,0))/\w.heap[bf]?=some (.cells #[.func (.func F) #[] #[]] 203 (0,0))/\P=fun k=>P0 k∨k=bd∨k=bf
theorem VLAt.lt {b:Nat}{xs:List Val}{P:Nat->Prop}{w:World}(h:VLAt b xs P w):∀k,P k->k<w.heap.size:=by
 obtain⟨v,css,Q,h1,h2,h3,h4,h5,rfl⟩:=h;rintro k (rfl|hk|hk)
 ·exact z8 h1
 ·exact(h2.lt k hk).2
 ·exact(h5 k hk).1
theorem VLAt.kept {b:Nat}{xs:List Val}{P:Nat->Prop}{w w':World}(h:VLAt b xs P w)(hu:Upd (fun k=>¬P k) w w'):VLAt b xs P w':=by
 obtain⟨v,css,Q,h1,h2,h3,h4,h5,rfl⟩:=h;exact⟨v,css,Q,(hu.block b (z8 h1) (fun h=>h (.inl rfl))).trans h1,hu.own h2 (fun k hk h=>h (.inr (.inl hk))),h3,fun j g1 g2=>VRel.upd hu (fun k hk h=>h (.inr (.inr hk))) (fun k hk=>hk) _ _ (h4 j g1 g2),fun k hk=>⟨Nat.lt_of_lt_of_le (h5 k hk).1 hu.size,(h5 k hk).2⟩,rfl⟩
def z10 (b bd bf:Nat)(d:Int)(F:Nat):j5 (List Val) where
 rel:=VLS b bd bf d F
 lt:=by
  rintro xs P w ⟨P0,h1,_,_,h4,h5,rfl⟩ k (hk|rfl|rfl)
  ·exact h1.lt k hk
  ·exact z8 h4
  ·exact z8 h5
 kept:=by
  rintro xs P w w' ⟨P0,h1,h2,h3,h4,h5,rfl⟩ hu;exact⟨P0,h1.kept (hu.mono fun k _ h h'=>h (.inl h')),h2,h3,(hu.block bd (z8 h4) (fun h=>h (.inr (.inl rfl)))).trans h4,(hu.block bf (z8 h5) (fun h=>h (.inr (.inr rfl)))).trans h5,rfl⟩
theorem zaa (b bd bf:Nat) (d:Int) (F:Nat) (rd:List UInt8->Int->Except Nat Val) (r:Rec) (xs:List Val) (P:Nat->Prop) (w:World) (hET:∀args w,(callFunc F args).run Tryz.prog w=.ok (.enter F args) w) (hd : -9223372036854775807<=d/\d<=9223372036854775807) (hl:xs.length<=1000000)
  (hread:Hid (∀(X:ByteArray) w',X.data.toList=r.s->Calls Tryz.prog F #[.string X,.int .i64 (d-1)] w' (X0 (rd r.s (d-1)) X.size w'))) (h:Hid (VLS b bd bf d F xs P w)) :
  Calls Tryz.prog 170 #[recV r,.pointer (some ⟨b,0,none⟩),.pointer (some ⟨bd,0,none⟩),.pointer (some ⟨bf,0,none⟩)] w (xx (z10 b bd bf d F) (yc rd (d-1)) xs P r w):=by
 obtain⟨P0,h1,h2,h3,h4,h5,rfl⟩:=h.out;have H1:=hid h1;have H2:=hid h2;have H3:=hid h3;have H4:=hid h4;have H5:=hid h5;clear h1 h2 h3 h4 h5;obtain⟨X,hX⟩:∃X:ByteArray,(⟨r.s.toArray⟩:ByteArray)=X:=⟨_,rfl⟩
 have hXD:X.data.toList=r.s:=by rw[<-hX]
 obtain⟨rb,hrb⟩:=nmd (w.heap.size)
 obtain⟨W0,hW0⟩:=nmd (w.alloc (.cells #[.int .i64 r.num,.int .i64 r.ty,.int .u64 r.n,.string X,.string ⟨r.raw.toArray⟩] 78))
 have HU0:Hid (Upd (fun _=>False) w W0):=hid (by rw[<-hW0];exact Upd.alloc _ _ _);have hr3:W0.cell? ⟨rb,3,none⟩=some (.string X):=by rw[<-hW0,<-hrb];exact za (heap_alloc_new w _) (j:=3) rfl
 have hcd:W0.cell? ⟨bd,0,none⟩=some (.int .i64 d):=za ((HU0.out.block bd (z8 H4.out) (fun h=>h)).trans H4.out) (j:=0) rfl;have hcf:W0.cell? ⟨bf,0,none⟩=some (.func (.func F) #[] #[]):=za ((HU0.out.block bf (z8 H5.out) (fun h=>h)).trans H5.out) (j:=0) rfl;have q1:IntKind.i64.wrap (d-1)=d-1:=IntWalk.i64_in _ (by omega);have HA:=hid (zfq b xs P0 F X (d-1) (rd r.s (d-1)) W0 hET (hid (H1.out.kept (HU0.out.mono fun _ _ h=>h.elim))) hl (hid (fun w'=>hread.out X w' hXD)));have HW0:=hid hW0;have HRB:=hid hrb;rw[<-hW0]at hcd hcf;clear hW0 hrb hET hXD hr3;unfold recV;rw[hX];clear hX;go_enter Tryz.func170,Tryz.ntmps170;go_wp2_with fail;rw[HW0.out];refine HA.out.mono ?_;intro e w1 hpost;obtain⟨hu1,hcase⟩:=hpost;have HU1:Hid (Upd P0 w w1):=hid ((HU0.out.mono fun _ _ h=>h.elim).trans hu1);have HS0:=hid HU0.out.size;clear hu1 hcd hcf
 cases hrd:rd r.s (d-1)with
 | error c =>
  rw[hrd]at hcase;obtain⟨y,rfl,hec⟩:=hcase;obtain⟨T',z,rfl⟩:=hec.iface;have HEC:=hid hec;have HST:Hid (yc rd (d-1) xs r=.error c):=hid (by unfold yc;rw[hrd]);clear hec hrd;go_wp2_with fail;refine(Zs _ _ _ _).mono ?_;rintro e w' ⟨rfl,rfl⟩;go_wp2_with fail;go_ret;refine⟨(HU1.out.mono fun k _ h => .inl h).trans (Upd.alloc _ _ _),?_⟩;rw[HST.out];exact⟨_,rfl,kt HEC.out⟩
 | ok x =>
  rw[hrd]at hcase;obtain⟨rfl,P',hat,hp⟩:=hcase;have HAT:=hid hat;have HP:=hid hp;have HST:Hid (yc rd (d-1) xs r=.ok (xs++[x])):=hid (by unfold yc;rw[hrd]);clear hat hp hrd;go_wp2_with fail;refine(Xe _ _).mono ?_;rintro e w' ⟨rfl,rfl⟩;go_wp2_with fail;go_ret;refine⟨HU1.out.mono fun k _ h => .inl h,?_⟩;rw[HST.out]
  have hn:∀k,k<w.heap.size->¬P0 k->¬P' k:=fun k hk h0 h'=>by
   rcases HP.out k h' with h|h
   ·exact h0 h
   ·have:=HS0.out;omega
  refine⟨rfl,_,⟨P',HAT.out,hn bd (z8 H4.out) H2.out,hn bf (z8 H5.out) H3.out,(HU1.out.block bd (z8 H4.out) H2.out).trans H4.out,(HU1.out.block bf (z8 H5.out) H3.out).trans H5.out,rfl⟩,fun k hk=>?_⟩
  rcases hk with hk|hk
  ·rcases HP.out k hk with h|h
   ·exact .inl (.inl h)
   ·exact .inr (Nat.le_trans HS0.out h)
  ·exact .inl (.inr hk)
def zcw (rd:Except Nat (List Val × List UInt8))(w:World)(e:Ending)(w':World):Prop:=Below w.heap.size w w'/\match rd with
 | .error c=>∃y,e=.returned (.tuple #[.slice none 0 0,.string ⟨#[]⟩,y])/\EC w' y c
 | .ok (xs,i)=>∃lo lc,e=.returned (.tuple #[.slice lo xs.length lc,.string ⟨i.toArray⟩,.nilIface])/\yv w' (fun k=>w.heap.size<=k) xs lo 0
theorem zc5 (F:Nat) (X:ByteArray) (d:Int) (rd:List UInt8->Int->Except Nat Val) (w:World) (hX:X.size<=1000000) (hET:∀args w,(callFunc F args).run Tryz.prog w=.ok (.enter F args) w) (hd : -9223372036854775807<=d/\d<=9223372036854775807)
  (hread:Hid (∀(Y:ByteArray) w',Y.size<X.size->Calls Tryz.prog F #[.string Y,.int .i64 (d-1)] w' (X0 (rd Y.data.toList (d-1)) Y.size w'))) :
  Calls Tryz.prog 159 #[.string X,.int .i64 d,.func (.func F) #[] #[]] w (zcw (yf rd X.data.toList d) w):=by
 have HK:=hid (fun (b bd bf:Nat) (r:Rec) (st:List Val) (P:Nat->Prop) (w:World) (_:itk r=true) (hr:zt d r) (hraw:r.raw.length<=X.size) (_:∀rs,wall X.data.toList d=.ok rs->r∈rs) (hpre:∃pre:List Rec,(∀x∈pre,zt d x)/\zg itk (yc rd (d-1)) [] pre=.ok st/\(pre.flatMap Rec.raw).length+r.raw.length<=X.size) (h:(z10 b bd bf d F).rel st P w)=>zaa b bd bf d F rd r st P w hET hd (by
  obtain⟨pre,h1,h2,h3⟩:=hpre;have:=Qz pre h1 h2;dsimp only[List.length_nil]at this
  omega) (hid (fun Y w' hY=>by
   have hz:Y.size=r.s.length:=by rw[<-hY];simp
   have:=hread.out Y w' (by have:=q5 hr;omega);rw[hY]at this;exact this)) (hid h))
 have HE1:=hid (enters_of Tryz.func169 (by kernel_rfl) rfl);have HE2:=hid (enters_of Tryz.func170 (by kernel_rfl) rfl);obtain⟨g,hg⟩:=nmd (w.heap.size)
 obtain⟨W0,hW0⟩:=nmd (((w.alloc (.cells #[.int .i64 d] 3)).alloc (.cells #[.func (.func F) #[] #[]] 203)).alloc (.cells #[.slice none 0 0] 51))
 have HB0:Hid (Below w.heap.size w W0):=hid (by rw[<-hW0];exact zb (zb (zd _ _) (zd _ _)) (zd _ _));have s1:(w.alloc (.cells #[.int .i64 d] 3)).heap.size=g+1:=by rw[<-hg];exact Array.size_push ..
 have s2:((w.alloc (.cells #[.int .i64 d] 3)).alloc (.cells #[.func (.func F) #[] #[]] 203)).heap.size=g+2:=by rw[show g+2=g+1+1 from rfl,<-s1];exact Array.size_push ..
 have HRD:Hid (W0.heap[g]?=some (.cells #[.int .i64 d] 3 (0,0))):=hid (by rw[<-hW0,<-hg];exact(Below.heap_alloc _ _ _ (by rw[s2];omega)).trans ((Below.heap_alloc _ _ _ (by rw[s1];omega)).trans (heap_alloc_new w _)));have HRF:Hid (W0.heap[g+1]?=some (.cells #[.func (.func F) #[] #[]] 203 (0,0))):=hid (by rw[<-hW0,<-s1];exact(Below.heap_alloc _ _ _ (by rw[s2,s1];omega)).trans (heap_alloc_new _ _));have HRL:Hid (W0.heap[g+2]?=some (.cells #[.slice none 0 0] 51 (0,0))):=hid (by rw[<-hW0,<-s2];exact heap_alloc_new _ _);have HTK:Hid ((z10 (g+2) g (g+1) d F).rel [] (fun k=>(k=g+2∨(Value.slice none 0 0).ownBlock=some k∨False)∨k=g∨k=g+1) W0):=hid ⟨_,⟨.slice none 0 0,[],fun _=>False,HRL.out,World.ownsRow_nil _ _ _ _,rfl,fun j h1=>by simp at h1,fun _ h=>h.elim,rfl⟩,by simp[Value.ownBlock],by simp[Value.ownBlock],HRD.out,HRF.out,rfl⟩;have hcd:=rc0 HRD.out;have HW0:=hid hW0;have HGG:=hid hg;clear hW0 s1 s2 hET;go_enter Tryz.func159,Tryz.ntmps159;go_wp2_with fail;rw[HW0.out];go_wp2_with fail;refine(kn (z10 (g+2) g (g+1) d F) itk (yc rd (d-1)) 169 170 #[.pointer (some ⟨g+2,0,none⟩),.pointer (some ⟨g,0,none⟩),.pointer (some ⟨g+1,0,none⟩)] [] X d W0 hX HE1.out HE2.out (fun r w _=>z3e r w) (HK.out (g+2) g (g+1)) _ HTK.out).mono ?_;intro e w1 hpost;obtain⟨hu,hcase⟩:=hpost
 have HB1:Hid (Below w.heap.size w w1):=hid (HB0.out.trans (hu.below (by have:=HB0.out.size;omega) (fun k _ h=>by
  have:=HGG.out
  rcases h with (h|h|h)|h|h
  ·omega
  ·simp[Value.ownBlock]at h
  ·exact h.elim
  ·omega
  ·omega)))
 clear hu hcd
 cases hb:zq itk (yc rd (d-1)) [] X.data.toList d with
 | error c =>
  rw[hb]at hcase;obtain⟨v,q,rfl,hq,hew⟩:=hcase;obtain⟨T',y,rfl⟩:=hew.iface;have HBR:Hid (yf rd X.data.toList d=.error c):=hid hb;have HEC:=hid hew.ec;clear hb hew;go_wp2_with fail
  go_ret3
  refine⟨HB1.out,?_⟩;rw[HBR.out];exact⟨_,rfl,HEC.out⟩
 | ok xu =>
  obtain⟨xs,i⟩:=xu;rw[hb]at hcase;obtain⟨rfl,P',⟨P0,hat,h2,h3,h4,h5,rfl⟩,hp⟩:=hcase;have HBR:Hid (yf rd X.data.toList d=.ok (xs,i)):=hid hb;obtain⟨v,css,Q,g1,g2,g3,g4,g5,rfl⟩:=hat;obtain⟨lo,lc,rfl⟩:=zh g2
  have HR:=hid (z7l g2 g3 (P:=fun k=>w.heap.size<=k) (fun j a1 a2=>VRel.upd (Upd.refl (fun _=>False) w1) (fun _ _ h=>h) (fun k hk=>by
   have:=hp k (.inl (.inr (.inr hk)));have h0:=HGG.out;have h9:=HB0.out.size
   rcases this with ((h|h|h)|h|h)|h
   ·omega
   ·simp[Value.ownBlock]at h
   ·exact h.elim
   ·omega
   ·omega
   ·omega) _ _ (g4 j a1 a2)) (fun k hk=>by have:=(g2.lt k hk).1;have:=HGG.out;omega))
  have hcl:=rc0 g1;clear hb g1 g2 g3 g4 g5 h2 h3 h4 h5 hp;go_wp2_with fail
  go_ret3
  refine⟨HB1.out,?_⟩;rw[HBR.out];exact⟨lo,lc,rfl,HR.out⟩
def KLS (b bd bf:Nat)(d:Int)(F:Nat)(xs:List KV)(P:Nat->Prop)(w:World):Prop:=∃P0,KLAt b xs P0 w/\¬P0 bd/\¬P0 bf/\w.heap[bd]?=some (.cells #[.int .i64 d] 3 (0,0))/\w.heap[bf]?=some (.cells #[.func (.func F) #[] #[]] 145 (0,0))/\P=fun k=>P0 k∨k=bd∨k=bf
theorem KLAt.lt {b:Nat}{xs:List KV}{P:Nat->Prop}{w:World}(h:KLAt b xs P w):∀k,P k->k<w.heap.size:=by
 obtain⟨v,css,Q,h1,h2,h3,h4,h5,rfl⟩:=h;rintro k (rfl|hk|hk)
 ·exact z8 h1
 ·exact(h2.lt k hk).2
 ·exact(h5 k hk).1
theorem KLAt.kept {b:Nat}{xs:List KV}{P:Nat->Prop}{w w':World}(h:KLAt b xs P w)(hu:Upd (fun k=>¬P k) w w'):KLAt b xs P w':=by
 obtain⟨v,css,Q,h1,h2,h3,h4,h5,rfl⟩:=h;exact⟨v,css,Q,(hu.block b (z8 h1) (fun h=>h (.inl rfl))).trans h1,hu.own h2 (fun k hk h=>h (.inr (.inl hk))),h3,fun j g1 g2=>KRel.upd hu (fun k hk h=>h (.inr (.inr hk))) (fun k hk=>hk) _ _ (h4 j g1 g2),fun k hk=>⟨Nat.lt_of_lt_of_le (h5 k hk).1 hu.size,(h5 k hk).2⟩,rfl⟩
def z0y (b bd bf:Nat)(d:Int)(F:Nat):j5 (List KV) where
 rel:=KLS b bd bf d F
 lt:=by
  rintro xs P w ⟨P0,h1,_,_,h4,h5,rfl⟩ k (hk|rfl|rfl)
  ·exact h1.lt k hk
  ·exact z8 h4
  ·exact z8 h5
 kept:=by
  rintro xs P w w' ⟨P0,h1,h2,h3,h4,h5,rfl⟩ hu;exact⟨P0,h1.kept (hu.mono fun k _ h h'=>h (.inl h')),h2,h3,(hu.block bd (z8 h4) (fun h=>h (.inr (.inl rfl)))).trans h4,(hu.block bf (z8 h5) (fun h=>h (.inr (.inr rfl)))).trans h5,rfl⟩
theorem zaq (b bd bf:Nat) (d:Int) (F:Nat) (rd:List UInt8->Int->Except Nat KV) (r:Rec) (xs:List KV) (P:Nat->Prop) (w:World) (hET:∀args w,(callFunc F args).run Tryz.prog w=.ok (.enter F args) w) (hd : -9223372036854775807<=d/\d<=9223372036854775807) (hl:xs.length<=1000000)
  (hread:Hid (∀(X:ByteArray) w',X.data.toList=r.s->Calls Tryz.prog F #[.string X,.int .i64 (d-1)] w' (Qy (rd r.s (d-1)) X.size w'))) (h:Hid (KLS b bd bf d F xs P w)) :
  Calls Tryz.prog 172 #[recV r,.pointer (some ⟨b,0,none⟩),.pointer (some ⟨bd,0,none⟩),.pointer (some ⟨bf,0,none⟩)] w (xx (z0y b bd bf d F) (yc rd (d-1)) xs P r w):=by
 obtain⟨P0,h1,h2,h3,h4,h5,rfl⟩:=h.out;have H1:=hid h1;have H2:=hid h2;have H3:=hid h3;have H4:=hid h4;have H5:=hid h5;clear h1 h2 h3 h4 h5;obtain⟨X,hX⟩:∃X:ByteArray,(⟨r.s.toArray⟩:ByteArray)=X:=⟨_,rfl⟩
 have hXD:X.data.toList=r.s:=by rw[<-hX]
 obtain⟨rb,hrb⟩:=nmd (w.heap.size)
 obtain⟨W0,hW0⟩:=nmd (w.alloc (.cells #[.int .i64 r.num,.int .i64 r.ty,.int .u64 r.n,.string X,.string ⟨r.raw.toArray⟩] 78))
 have HU0:Hid (Upd (fun _=>False) w W0):=hid (by rw[<-hW0];exact Upd.alloc _ _ _);have hr3:W0.cell? ⟨rb,3,none⟩=some (.string X):=by rw[<-hW0,<-hrb];exact za (heap_alloc_new w _) (j:=3) rfl
 have hcd:W0.cell? ⟨bd,0,none⟩=some (.int .i64 d):=za ((HU0.out.block bd (z8 H4.out) (fun h=>h)).trans H4.out) (j:=0) rfl;have hcf:W0.cell? ⟨bf,0,none⟩=some (.func (.func F) #[] #[]):=za ((HU0.out.block bf (z8 H5.out) (fun h=>h)).trans H5.out) (j:=0) rfl;have q1:IntKind.i64.wrap (d-1)=d-1:=IntWalk.i64_in _ (by omega);have HA:=hid (zfu b xs P0 F X (d-1) (rd r.s (d-1)) W0 hET (hid (H1.out.kept (HU0.out.mono fun _ _ h=>h.elim))) hl (hid (fun w'=>hread.out X w' hXD)));have HW0:=hid hW0;have HRB:=hid hrb;rw[<-hW0]at hcd hcf;clear hW0 hrb hET hXD hr3;unfold recV;rw[hX];clear hX;go_enter Tryz.func172,Tryz.ntmps172;go_wp2_with fail;rw[HW0.out];refine HA.out.mono ?_;intro e w1 hpost;obtain⟨hu1,hcase⟩:=hpost;have HU1:Hid (Upd P0 w w1):=hid ((HU0.out.mono fun _ _ h=>h.elim).trans hu1);have HS0:=hid HU0.out.size;clear hu1 hcd hcf
 cases hrd:rd r.s (d-1)with
 | error c =>
  rw[hrd]at hcase;obtain⟨y,rfl,hec⟩:=hcase;obtain⟨T',z,rfl⟩:=hec.iface;have HEC:=hid hec;have HST:Hid (yc rd (d-1) xs r=.error c):=hid (by unfold yc;rw[hrd]);clear hec hrd;go_wp2_with fail;refine(Zs _ _ _ _).mono ?_;rintro e w' ⟨rfl,rfl⟩;go_wp2_with fail;go_ret;refine⟨(HU1.out.mono fun k _ h => .inl h).trans (Upd.alloc _ _ _),?_⟩;rw[HST.out];exact⟨_,rfl,kt HEC.out⟩
 | ok x =>
  rw[hrd]at hcase;obtain⟨rfl,P',hat,hp⟩:=hcase;have HAT:=hid hat;have HP:=hid hp;have HST:Hid (yc rd (d-1) xs r=.ok (xs++[x])):=hid (by unfold yc;rw[hrd]);clear hat hp hrd;go_wp2_with fail;refine(Xe _ _).mono ?_;rintro e w' ⟨rfl,rfl⟩;go_wp2_with fail;go_ret;refine⟨HU1.out.mono fun k _ h => .inl h,?_⟩;rw[HST.out]
  have hn:∀k,k<w.heap.size->¬P0 k->¬P' k:=fun k hk h0 h'=>by
   rcases HP.out k h' with h|h
   ·exact h0 h
   ·have:=HS0.out;omega
  refine⟨rfl,_,⟨P',HAT.out,hn bd (z8 H4.out) H2.out,hn bf (z8 H5.out) H3.out,(HU1.out.block bd (z8 H4.out) H2.out).trans H4.out,(HU1.out.block bf (z8 H5.out) H3.out).trans H5.out,rfl⟩,fun k hk=>?_⟩
  rcases hk with hk|hk
  ·rcases HP.out k hk with h|h
   ·exact .inl (.inl h)
   ·exact .inr (Nat.le_trans HS0.out h)
  ·exact .inl (.inr hk)
def zdj (rd:Except Nat (List KV × List UInt8))(w:World)(e:Ending)(w':World):Prop:=Below w.heap.size w w'/\match rd with
 | .error c=>∃y,e=.returned (.tuple #[.slice none 0 0,.string ⟨#[]⟩,y])/\EC w' y c
 | .ok (xs,i)=>∃lo lc,e=.returned (.tuple #[.slice lo xs.length lc,.string ⟨i.toArray⟩,.nilIface])/\y7 w' (fun k=>w.heap.size<=k) xs lo 0
theorem zcn (F:Nat) (X:ByteArray) (d:Int) (rd:List UInt8->Int->Except Nat KV) (w:World) (hX:X.size<=1000000) (hET:∀args w,(callFunc F args).run Tryz.prog w=.ok (.enter F args) w) (hd : -9223372036854775807<=d/\d<=9223372036854775807)
  (hread:Hid (∀(Y:ByteArray) w',Y.size<X.size->Calls Tryz.prog F #[.string Y,.int .i64 (d-1)] w' (Qy (rd Y.data.toList (d-1)) Y.size w'))) :
  Calls Tryz.prog 160 #[.string X,.int .i64 d,.func (.func F) #[] #[]] w (zdj (yf rd X.data.toList d) w):=by
 have HK:=hid (fun (b bd bf:Nat) (r:Rec) (st:List KV) (P:Nat->Prop) (w:World) (_:itk r=true) (hr:zt d r) (hraw:r.raw.length<=X.size) (_:∀rs,wall X.data.toList d=.ok rs->r∈rs) (hpre:∃pre:List Rec,(∀x∈pre,zt d x)/\zg itk (yc rd (d-1)) [] pre=.ok st/\(pre.flatMap Rec.raw).length+r.raw.length<=X.size) (h:(z0y b bd bf d F).rel st P w)=>zaq b bd bf d F rd r st P w hET hd (by
  obtain⟨pre,h1,h2,h3⟩:=hpre;have:=Qz pre h1 h2;dsimp only[List.length_nil]at this
  omega) (hid (fun Y w' hY=>by
   have hz:Y.size=r.s.length:=by rw[<-hY];simp
   have:=hread.out Y w' (by have:=q5 hr;omega);rw[hY]at this;exact this)) (hid h))
 have HE1:=hid (enters_of Tryz.func169 (by kernel_rfl) rfl);have HE2:=hid (enters_of Tryz.func172 (by kernel_rfl) rfl);obtain⟨g,hg⟩:=nmd (w.heap.size)
 obtain⟨W0,hW0⟩:=nmd (((w.alloc (.cells #[.int .i64 d] 3)).alloc (.cells #[.func (.func F) #[] #[]] 145)).alloc (.cells #[.slice none 0 0] 23))
 have HB0:Hid (Below w.heap.size w W0):=hid (by rw[<-hW0];exact zb (zb (zd _ _) (zd _ _)) (zd _ _));have s1:(w.alloc (.cells #[.int .i64 d] 3)).heap.size=g+1:=by rw[<-hg];exact Array.size_push ..
 have s2:((w.alloc (.cells #[.int .i64 d] 3)).alloc (.cells #[.func (.func F) #[] #[]] 145)).heap.size=g+2:=by rw[show g+2=g+1+1 from rfl,<-s1];exact Array.size_push ..
 have HRD:Hid (W0.heap[g]?=some (.cells #[.int .i64 d] 3 (0,0))):=hid (by rw[<-hW0,<-hg];exact(Below.heap_alloc _ _ _ (by rw[s2];omega)).trans ((Below.heap_alloc _ _ _ (by rw[s1];omega)).trans (heap_alloc_new w _)));have HRF:Hid (W0.heap[g+1]?=some (.cells #[.func (.func F) #[] #[]] 145 (0,0))):=hid (by rw[<-hW0,<-s1];exact(Below.heap_alloc _ _ _ (by rw[s2,s1];omega)).trans (heap_alloc_new _ _));have HRL:Hid (W0.heap[g+2]?=some (.cells #[.slice none 0 0] 23 (0,0))):=hid (by rw[<-hW0,<-s2];exact heap_alloc_new _ _);have HTK:Hid ((z0y (g+2) g (g+1) d F).rel [] (fun k=>(k=g+2∨(Value.slice none 0 0).ownBlock=some k∨False)∨k=g∨k=g+1) W0):=hid ⟨_,⟨.slice none 0 0,[],fun _=>False,HRL.out,World.ownsRow_nil _ _ _ _,rfl,fun j h1=>by simp at h1,fun _ h=>h.elim,rfl⟩,by simp[Value.ownBlock],by simp[Value.ownBlock],HRD.out,HRF.out,rfl⟩;have hcd:=rc0 HRD.out;have HW0:=hid hW0;have HGG:=hid hg;clear hW0 s1 s2 hET;go_enter Tryz.func160,Tryz.ntmps160;go_wp2_with fail;rw[HW0.out];go_wp2_with fail;refine(kn (z0y (g+2) g (g+1) d F) itk (yc rd (d-1)) 169 172 #[.pointer (some ⟨g+2,0,none⟩),.pointer (some ⟨g,0,none⟩),.pointer (some ⟨g+1,0,none⟩)] [] X d W0 hX HE1.out HE2.out (fun r w _=>z3e r w) (HK.out (g+2) g (g+1)) _ HTK.out).mono ?_;intro e w1 hpost;obtain⟨hu,hcase⟩:=hpost
 have HB1:Hid (Below w.heap.size w w1):=hid (HB0.out.trans (hu.below (by have:=HB0.out.size;omega) (fun k _ h=>by
  have:=HGG.out
  rcases h with (h|h|h)|h|h
  ·omega
  ·simp[Value.ownBlock]at h
  ·exact h.elim
  ·omega
  ·omega)))
 clear hu hcd
 cases hb:zq itk (yc rd (d-1)) [] X.data.toList d with
 | error c =>
  rw[hb]at hcase;obtain⟨v,q,rfl,hq,hew⟩:=hcase;obtain⟨T',y,rfl⟩:=hew.iface;have HBR:Hid (yf rd X.data.toList d=.error c):=hid hb;have HEC:=hid hew.ec;clear hb hew;go_wp2_with fail
  go_ret3
  refine⟨HB1.out,?_⟩;rw[HBR.out];exact⟨_,rfl,HEC.out⟩
 | ok xu =>
  obtain⟨xs,i⟩:=xu;rw[hb]at hcase;obtain⟨rfl,P',⟨P0,hat,h2,h3,h4,h5,rfl⟩,hp⟩:=hcase;have HBR:Hid (yf rd X.data.toList d=.ok (xs,i)):=hid hb;obtain⟨v,css,Q,g1,g2,g3,g4,g5,rfl⟩:=hat;obtain⟨lo,lc,rfl⟩:=zh g2
  have HR:=hid (Yy g2 g3 (P:=fun k=>w.heap.size<=k) (fun j a1 a2=>KRel.upd (Upd.refl (fun _=>False) w1) (fun _ _ h=>h) (fun k hk=>by
   have:=hp k (.inl (.inr (.inr hk)));have h0:=HGG.out;have h9:=HB0.out.size
   rcases this with ((h|h|h)|h|h)|h
   ·omega
   ·simp[Value.ownBlock]at h
   ·exact h.elim
   ·omega
   ·omega
   ·omega) _ _ (g4 j a1 a2)) (fun k hk=>by have:=(g2.lt k hk).1;have:=HGG.out;omega))
  have hcl:=rc0 g1;clear hb g1 g2 g3 g4 g5 h2 h3 h4 h5 hp;go_wp2_with fail
  go_ret3
  refine⟨HB1.out,?_⟩;rw[HBR.out];exact⟨lo,lc,rfl,HR.out⟩
theorem y4 {w:World}{g:Nat}{T:TypeId}{a0 a1 a2 a3 a4 a5 a6 a7:Value}(h:w.heap[g]?=some (.cells #[a0,a1,a2,a3,a4,a5,a6,a7] T (0,0)))(c0 c1 c2 c3 c4 c5 c6 c7:Value) :
  (((((((((w).setCell ⟨g,0,none⟩ c0).setCell ⟨g,1,none⟩ c1).setCell ⟨g,2,none⟩ c2).setCell ⟨g,3,none⟩ c3).setCell ⟨g,4,none⟩ c4).setCell ⟨g,5,none⟩ c5).setCell ⟨g,6,none⟩ c6).setCell ⟨g,7,none⟩ c7).heap[g]?=some (.cells #[c0,c1,c2,c3,c4,c5,c6,c7] T (0,0)):=by
 have h0:((w).setCell ⟨g,0,none⟩ c0).heap[g]?=some (.cells #[c0,a1,a2,a3,a4,a5,a6,a7] T (0,0)):=ze h 0 c0;have h1:(((w).setCell ⟨g,0,none⟩ c0).setCell ⟨g,1,none⟩ c1).heap[g]?=some (.cells #[c0,c1,a2,a3,a4,a5,a6,a7] T (0,0)):=ze h0 1 c1;have h2:((((w).setCell ⟨g,0,none⟩ c0).setCell ⟨g,1,none⟩ c1).setCell ⟨g,2,none⟩ c2).heap[g]?=some (.cells #[c0,c1,c2,a3,a4,a5,a6,a7] T (0,0)):=ze h1 2 c2;have h3:(((((w).setCell ⟨g,0,none⟩ c0).setCell ⟨g,1,none⟩ c1).setCell ⟨g,2,none⟩ c2).setCell ⟨g,3,none⟩ c3).heap[g]?=some (.cells #[c0,c1,c2,c3,a4,a5,a6,a7] T (0,0)):=ze h2 3 c3;have h4:((((((w).setCell ⟨g,0,none⟩ c0).setCell ⟨g,1,none⟩ c1).setCell ⟨g,2,none⟩ c2).setCell ⟨g,3,none⟩ c3).setCell ⟨g,4,none⟩ c4).heap[g]?=some (.cells #[c0,c1,c2,c3,c4,a5,a6,a7] T (0,0)):=ze h3 4 c4;have h5:(((((((w).setCell ⟨g,0,none⟩ c0).setCell ⟨g,1,none⟩ c1).setCell ⟨g,2,none⟩ c2).setCell ⟨g,3,none⟩ c3).setCell ⟨g,4,none⟩ c4).setCell ⟨g,5,none⟩ c5).heap[g]?=some (.cells #[c0,c1,c2,c3,c4,c5,a6,a7] T (0,0)):=ze h4 5 c5;have h6:((((((((w).setCell ⟨g,0,none⟩ c0).setCell ⟨g,1,none⟩ c1).setCell ⟨g,2,none⟩ c2).setCell ⟨g,3,none⟩ c3).setCell ⟨g,4,none⟩ c4).setCell ⟨g,5,none⟩ c5).setCell ⟨g,6,none⟩ c6).heap[g]?=some (.cells #[c0,c1,c2,c3,c4,c5,c6,a7] T (0,0)):=ze h5 6 c6;have h7:(((((((((w).setCell ⟨g,0,none⟩ c0).setCell ⟨g,1,none⟩ c1).setCell ⟨g,2,none⟩ c2).setCell ⟨g,3,none⟩ c3).setCell ⟨g,4,none⟩ c4).setCell ⟨g,5,none⟩ c5).setCell ⟨g,6,none⟩ c6).setCell ⟨g,7,none⟩ c7).heap[g]?=some (.cells #[c0,c1,c2,c3,c4,c5,c6,c7] T (0,0)):=ze h6 7 c7;exact h7
theorem y5 (w:World)(g:Nat)(c0 c1 c2 c3 c4 c5 c6 c7:Value):Upd (fun k=>k=g) w ((((((((w.setCell ⟨g,0,none⟩ c0).setCell ⟨g,1,none⟩ c1).setCell ⟨g,2,none⟩ c2).setCell ⟨g,3,none⟩ c3).setCell ⟨g,4,none⟩ c4).setCell ⟨g,5,none⟩ c5).setCell ⟨g,6,none⟩ c6).setCell ⟨g,7,none⟩ c7):=by
 have u0:=Upd.set w ⟨g,0,none⟩ c0;have u1:Upd (fun k=>k=g) w ((w.setCell ⟨g,0,none⟩ c0).setCell ⟨g,1,none⟩ c1):=Upd.trans u0 (Upd.set (w.setCell ⟨g,0,none⟩ c0) ⟨g,1,none⟩ c1);have u2:Upd (fun k=>k=g) w (((w.setCell ⟨g,0,none⟩ c0).setCell ⟨g,1,none⟩ c1).setCell ⟨g,2,none⟩ c2):=Upd.trans u1 (Upd.set ((w.setCell ⟨g,0,none⟩ c0).setCell ⟨g,1,none⟩ c1) ⟨g,2,none⟩ c2);have u3:Upd (fun k=>k=g) w ((((w.setCell ⟨g,0,none⟩ c0).setCell ⟨g,1,none⟩ c1).setCell ⟨g,2,none⟩ c2).setCell ⟨g,3,none⟩ c3):=Upd.trans u2 (Upd.set (((w.setCell ⟨g,0,none⟩ c0).setCell ⟨g,1,none⟩ c1).setCell ⟨g,2,none⟩ c2) ⟨g,3,none⟩ c3);have u4:Upd (fun k=>k=g) w (((((w.setCell ⟨g,0,none⟩ c0).setCell ⟨g,1,none⟩ c1).setCell ⟨g,2,none⟩ c2).setCell ⟨g,3,none⟩ c3).setCell ⟨g,4,none⟩ c4):=Upd.trans u3 (Upd.set ((((w.setCell ⟨g,0,none⟩ c0).setCell ⟨g,1,none⟩ c1).setCell ⟨g,2,none⟩ c2).setCell ⟨g,3,none⟩ c3) ⟨g,4,none⟩ c4);have u5:Upd (fun k=>k=g) w ((((((w.setCell ⟨g,0,none⟩ c0).setCell ⟨g,1,none⟩ c1).setCell ⟨g,2,none⟩ c2).setCell ⟨g,3,none⟩ c3).setCell ⟨g,4,none⟩ c4).setCell ⟨g,5,none⟩ c5):=Upd.trans u4 (Upd.set (((((w.setCell ⟨g,0,none⟩ c0).setCell ⟨g,1,none⟩ c1).setCell ⟨g,2,none⟩ c2).setCell ⟨g,3,none⟩ c3).setCell ⟨g,4,none⟩ c4) ⟨g,5,none⟩ c5);have u6:Upd (fun k=>k=g) w (((((((w.setCell ⟨g,0,none⟩ c0).setCell ⟨g,1,none⟩ c1).setCell ⟨g,2,none⟩ c2).setCell ⟨g,3,none⟩ c3).setCell ⟨g,4,none⟩ c4).setCell ⟨g,5,none⟩ c5).setCell ⟨g,6,none⟩ c6):=Upd.trans u5 (Upd.set ((((((w.setCell ⟨g,0,none⟩ c0).setCell ⟨g,1,none⟩ c1).setCell ⟨g,2,none⟩ c2).setCell ⟨g,3,none⟩ c3).setCell ⟨g,4,none⟩ c4).setCell ⟨g,5,none⟩ c5) ⟨g,6,none⟩ c6);have u7:Upd (fun k=>k=g) w ((((((((w.setCell ⟨g,0,none⟩ c0).setCell ⟨g,1,none⟩ c1).setCell ⟨g,2,none⟩ c2).setCell ⟨g,3,none⟩ c3).setCell ⟨g,4,none⟩ c4).setCell ⟨g,5,none⟩ c5).setCell ⟨g,6,none⟩ c6).setCell ⟨g,7,none⟩ c7):=Upd.trans u6 (Upd.set (((((((w.setCell ⟨g,0,none⟩ c0).setCell ⟨g,1,none⟩ c1).setCell ⟨g,2,none⟩ c2).setCell ⟨g,3,none⟩ c3).setCell ⟨g,4,none⟩ c4).setCell ⟨g,5,none⟩ c5).setCell ⟨g,6,none⟩ c6) ⟨g,7,none⟩ c7);exact u7
theorem ye {w:World}{g:Nat}{cs:Array Value}(hg:w.heap[g]?=some (.cells cs 53 (0,0)))(hc:cs.size=8):(loadVar 53 ⟨g,0,none⟩).run Tryz.prog w=.ok (.agg cs) w :=
 run_loadVar_row w g 53 53 cs (0,0) _ hg Tryz.underlying53 rfl (by rw[hc];kernel_rfl)
def SPost (rd:Except Nat Val)(w:World)(e:Ending)(w':World):Prop:=Below w.heap.size w w'/\match rd with
 | .error c=>∃k y,e=.returned (.tuple #[.agg #[.int .i64 k,.string ⟨#[]⟩,.bool false,.int .u64 0,.slice none 0 0,.slice none 0 0,.string ⟨#[]⟩,.string ⟨#[]⟩],y])/\EC w' y c
 | .ok x=>∃cs,e=.returned (.tuple #[.agg cs.toArray,.nilIface])/\VRel w' (fun k=>w.heap.size<=k) x cs
theorem ql (w:World)(P:Nat->Prop)(k:Int)(s:List UInt8)(b:Bool)(n:Nat):VRel w P (.mk k s b n [] [] [] []) [.int .i64 k,strV s,.bool b,.int .u64 n,.slice none 0 0,.slice none 0 0,strV [],strV []]:=by
 rw[VRel];exact⟨none,0,none,0,rfl,by rw[yv];trivial,by rw[y7];trivial⟩
theorem zb2 (o:One) (v:Value) (d:Int) (B:Nat) (vr:List UInt8->Int->Except Nat Val) (kr:List UInt8->Int->Except Nat KV) (w:World) (hown:Hid (w.ownsRow B 9 1 v o.ps.length (o.ps.map strV))) (hl:o.ps.length<=1000000) (hf:o.ps.flatten.length<=1000000) (hd : -9223372036854775807<=d/\d<=9223372036854775807)
  (hvr:Hid (∀(Y:ByteArray) w',Y.size<o.ps.flatten.length->Calls Tryz.prog 102 #[.string Y,.int .i64 (d-1)] w' (X0 (vr Y.data.toList (d-1)) Y.size w')))
  (hkr:Hid (∀(Y:ByteArray) w',Y.size<o.ps.flatten.length->Calls Tryz.prog 57 #[.string Y,.int .i64 (d-1)] w' (Qy (kr Y.data.toList (d-1)) Y.size w'))) :
  Calls Tryz.prog 139 #[.agg #[.int .i64 o.r.num,.int .i64 o.r.ty,.int .u64 o.r.n,.string ⟨o.r.s.toArray⟩,.string ⟨o.r.raw.toArray⟩,v],.int .i64 d] w (SPost (zz vr kr o d []) w):=by
 obtain⟨⟨num,ty,n,s,raw⟩,ps⟩:=o;dsimp only at hown hl hf hvr hkr ⊢;obtain⟨ao,cap,rfl⟩:=zh hown.out;obtain⟨S,hS⟩:∃S:ByteArray,(⟨s.toArray⟩:ByteArray)=S:=⟨_,rfl⟩
 have HS:=hid hS;rw[hS];clear hS;have HE1:=hid (enters_of Tryz.func102 (by kernel_rfl) rfl);have HE2:=hid (enters_of Tryz.func57 (by kernel_rfl) rfl);obtain⟨g,hg⟩:=nmd (w.heap.size)
 have HGG:=hid hg
 by_cases h1:num=1
 ·subst h1
  have HST:Hid (zz vr kr ⟨⟨1,ty,n,s,raw⟩,ps⟩ d []=.ok (.mk 1 s false 0 [] [] [] [])):=hid (by unfold zz;simp);go_enter Tryz.func139,Tryz.ntmps139;go_wp2_with fail;refine zi rfl rfl (ye (j3 hg _ _) rfl) rfl ?_;refine⟨zb (zd _ _) (zd _ _),?_⟩;rw[HST.out];exact⟨[.int .i64 1,strV s,.bool false,.int .u64 0,.slice none 0 0,.slice none 0 0,strV [],strV []],by simp only[strV,HS.out];rfl,ql _ _ _ _ _ _⟩
 by_cases h7:num=7
 ·subst h7
  have HST:Hid (zz vr kr ⟨⟨7,ty,n,s,raw⟩,ps⟩ d []=.ok (.mk 7 s false 0 [] [] [] [])):=hid (by unfold zz;simp);go_enter Tryz.func139,Tryz.ntmps139;go_wp2_with fail;refine zi rfl rfl (ye (j3 hg _ _) rfl) rfl ?_;refine⟨zb (zd _ _) (zd _ _),?_⟩;rw[HST.out];exact⟨[.int .i64 7,strV s,.bool false,.int .u64 0,.slice none 0 0,.slice none 0 0,strV [],strV []],by simp only[strV,HS.out];rfl,ql _ _ _ _ _ _⟩
 by_cases h2:num=2
 ·subst h2
  have HST:Hid (zz vr kr ⟨⟨2,ty,n,s,raw⟩,ps⟩ d []=.ok (.mk 2 [] (!decide (n=0)) 0 [] [] [] [])):=hid (by unfold zz;simp);have hb0:((n:Int) != 0)=!decide (n=0):=by by_cases h:n=0<;>simp[h]
  go_enter Tryz.func139,Tryz.ntmps139;go_wp2_with fail;refine zi rfl rfl (ye (j3 hg _ _) rfl) rfl ?_;refine⟨zb (zd _ _) (zd _ _),?_⟩;rw[HST.out];exact⟨[.int .i64 2,strV [],.bool (!decide (n=0)),.int .u64 0,.slice none 0 0,.slice none 0 0,strV [],strV []],rfl,ql _ _ _ _ _ _⟩
 by_cases h3:num=3
 ·subst h3
  have HST:Hid (zz vr kr ⟨⟨3,ty,n,s,raw⟩,ps⟩ d []=.ok (.mk 3 [] false n [] [] [] [])):=hid (by unfold zz;simp);go_enter Tryz.func139,Tryz.ntmps139;go_wp2_with fail;refine zi rfl rfl (ye (j3 hg _ _) rfl) rfl ?_;refine⟨zb (zd _ _) (zd _ _),?_⟩;rw[HST.out];exact⟨[.int .i64 3,strV [],.bool false,.int .u64 n,.slice none 0 0,.slice none 0 0,strV [],strV []],rfl,ql _ _ _ _ _ _⟩
 by_cases h4:num=4
 ·subst h4
  have HST:Hid (zz vr kr ⟨⟨4,ty,n,s,raw⟩,ps⟩ d []=.ok (.mk 4 [] false n [] [] [] [])):=hid (by unfold zz;simp);go_enter Tryz.func139,Tryz.ntmps139;go_wp2_with fail;refine zi rfl rfl (ye (j3 hg _ _) rfl) rfl ?_;refine⟨zb (zd _ _) (zd _ _),?_⟩;rw[HST.out];exact⟨[.int .i64 4,strV [],.bool false,.int .u64 n,.slice none 0 0,.slice none 0 0,strV [],strV []],rfl,ql _ _ _ _ _ _⟩
 by_cases h5:num=5
 ·subst h5
  have HST:Hid (zz vr kr ⟨⟨5,ty,n,s,raw⟩,ps⟩ d []=match yf vr ps.flatten d with | .error c => .error c | .ok (xs,i) => .ok (.mk 5 [] false 0 xs [] i [])):=hid (by unfold zz;simp;cases yf vr ps.flatten d<;>rfl);go_enter Tryz.func139,Tryz.ntmps139;go_wp2_with fail;obtain⟨W1,hW1⟩:∃W,(w.alloc (.cells #[.int .i64 5,.int .i64 ty,.int .u64 n,.string S,.string ⟨raw.toArray⟩,.slice ao ps.length cap] 251)).alloc (.cells #[.int .i64 5,.string ⟨#[]⟩,.bool false,.int .u64 0,.slice none 0 0,.slice none 0 0,.string ⟨#[]⟩,.string ⟨#[]⟩] 53)=W:=⟨_,rfl⟩
  have HX1:Hid (W1.heap[g+1]?=some (.cells #[.int .i64 5,.string ⟨#[]⟩,.bool false,.int .u64 0,.slice none 0 0,.slice none 0 0,.string ⟨#[]⟩,.string ⟨#[]⟩] 53 (0,0))):=hid (by rw[<-hW1];exact j3 hg _ _);have HO1:Hid (W1.heap[g]?=some (.cells #[.int .i64 5,.int .i64 ty,.int .u64 n,.string S,.string ⟨raw.toArray⟩,.slice ao ps.length cap] 251 (0,0))):=hid (by rw[<-hW1,<-hg];exact(Below.heap_alloc _ _ _ (by simp)).trans (heap_alloc_new w _));have HB1:Hid (Below w.heap.size w W1):=hid (by rw[<-hW1];exact zb (zd _ _) (zd _ _));rw[hW1];clear hW1;refine(Zj g 5 (.slice ao ps.length cap) ps B W1 HO1 rfl (hid (y6 hown.out HB1.out)) hl (by omega)).mono ?_;rintro e w2 ⟨rfl,hb2⟩;obtain⟨Y,hY⟩:∃Y:ByteArray,(⟨ps.flatten.toArray⟩:ByteArray)=Y:=⟨_,rfl⟩
  have hYs:Y.size=ps.flatten.length:=by rw[<-hY];simp[ByteArray.size]
  have HYD:Hid (Y.data.toList=ps.flatten):=hid (by rw[<-hY]);rw[hY];have HX2:=hid ((hb2.block _ (z8 HX1.out)).trans HX1.out);have HB2:=hid (zb HB1.out hb2);have HL:=hid (zc5 102 Y d vr w2 (by omega) HE1.out hd (hid (fun Y' w' h=>hvr.out Y' w' (by omega))));clear hY hb2;go_wp2_with fail;refine HL.out.mono ?_;intro e w3 hpost;obtain⟨hb3,hcase⟩:=hpost;rw[HYD.out]at hcase;have HX3:=hid ((hb3.block _ (z8 HX2.out)).trans HX2.out);have HB3:=hid (zb HB2.out hb3);have HS2:Hid (g+1<w2.heap.size):=hid (z8 HX2.out);clear hb3;have hx0:=rc0 HX3.out;have hf0:=z7 HX3.out 0;have hx1:=rc1 HX3.out;have hf1:=z7 HX3.out 1;have hx2:=rc2 HX3.out;have hf2:=z7 HX3.out 2;have hx3:=rc3 HX3.out;have hf3:=z7 HX3.out 3;have hx4:=rc4 HX3.out;have hf4:=z7 HX3.out 4;have hx5:=rc5 HX3.out;have hf5:=z7 HX3.out 5;have hx6:=rc6 HX3.out;have hf6:=z7 HX3.out 6;have hx7:=rc7 HX3.out;have hf7:=z7 HX3.out 7
  cases hrd:yf vr ps.flatten d with
  | error c =>
   rw[hrd]at hcase;obtain⟨y,rfl,hec⟩:=hcase;obtain⟨T',z,rfl⟩:=hec.iface;have HEC:=hid hec;have HRR:Hid (zz vr kr ⟨⟨5,ty,n,s,raw⟩,ps⟩ d []=.error c):=hid (by rw[HST.out,hrd]);clear hec hrd;go_wp2_with fail;have hu:=(Upd.set w3 ⟨g+1,4,none⟩ (.slice none 0 0)).trans (Upd.set _ ⟨g+1,6,none⟩ (.string ⟨#[]⟩));have hua:Upd (fun k=>k=g+1) w3 _:=hu.trans (y5 _ (g+1) (.int .i64 5) (.string ⟨#[]⟩) (.bool false) (.int .u64 0) (.slice none 0 0) (.slice none 0 0) (.string ⟨#[]⟩) (.string ⟨#[]⟩));refine zi rfl rfl (ye (y4 (ze (ze HX3.out 4 (.slice none 0 0)) 6 (.string ⟨#[]⟩)) _ _ _ _ _ _ _ _) rfl) rfl ?_;refine⟨HB3.out.trans (hua.below (by have:=HB3.out.size;omega) (fun k _ h=>by have h:k=g+1:=h;have:=HGG.out;omega)),?_⟩;rw[HRR.out];obtain⟨ws,he⟩:=HEC.out;exact⟨_,_,rfl,ws,x8 hua (fun k hk b m e h=>by have hk:k=g+1:=hk;subst hk;rw[HX3.out]at h;simp at h) he⟩
  | ok xi =>
   obtain⟨xs,i⟩:=xi;rw[hrd]at hcase;obtain⟨lo,lc,rfl,hrs⟩:=hcase;have HRS:=hid hrs;have HRR:Hid (zz vr kr ⟨⟨5,ty,n,s,raw⟩,ps⟩ d []=.ok (.mk 5 [] false 0 xs [] i [])):=hid (by rw[HST.out,hrd]);clear hrs hrd;go_wp2_with fail;have hu:=(Upd.set w3 ⟨g+1,4,none⟩ (.slice lo xs.length lc)).trans (Upd.set _ ⟨g+1,6,none⟩ (.string ⟨i.toArray⟩));have hua:Upd (fun k=>k=g+1) w3 _:=hu.trans (y5 _ (g+1) (.int .i64 5) (.string ⟨#[]⟩) (.bool false) (.int .u64 0) (.slice lo xs.length lc) (.slice none 0 0) (.string ⟨i.toArray⟩) (.string ⟨#[]⟩));refine zi rfl rfl (ye (y4 (ze (ze HX3.out 4 (.slice lo xs.length lc)) 6 (.string ⟨i.toArray⟩)) _ _ _ _ _ _ _ _) rfl) rfl ?_;refine⟨HB3.out.trans (hua.below (by have:=HB3.out.size;omega) (fun k _ h=>by have h:k=g+1:=h;have:=HGG.out;omega)),?_⟩;rw[HRR.out];refine⟨[.int .i64 5,strV [],.bool false,.int .u64 0,.slice lo xs.length lc,.slice none 0 0,strV i,strV []],rfl,?_⟩;rw[VRel];exact⟨lo,lc,none,0,rfl,yv.upd hua (fun k hk h=>by have h:k=g+1:=h;have:=HS2.out;omega) (fun k hk=>by have:=HB2.out.size;omega) _ _ _ HRS.out,by rw[y7];trivial⟩
 by_cases h6:num=6
 ·subst h6
  have HST:Hid (zz vr kr ⟨⟨6,ty,n,s,raw⟩,ps⟩ d []=match yf kr ps.flatten d with | .error c => .error c | .ok (xs,i) => .ok (.mk 6 [] false 0 [] xs i [])):=hid (by unfold zz;simp;cases yf kr ps.flatten d<;>rfl);go_enter Tryz.func139,Tryz.ntmps139;go_wp2_with fail;obtain⟨W1,hW1⟩:∃W,(w.alloc (.cells #[.int .i64 6,.int .i64 ty,.int .u64 n,.string S,.string ⟨raw.toArray⟩,.slice ao ps.length cap] 251)).alloc (.cells #[.int .i64 6,.string ⟨#[]⟩,.bool false,.int .u64 0,.slice none 0 0,.slice none 0 0,.string ⟨#[]⟩,.string ⟨#[]⟩] 53)=W:=⟨_,rfl⟩
  have HX1:Hid (W1.heap[g+1]?=some (.cells #[.int .i64 6,.string ⟨#[]⟩,.bool false,.int .u64 0,.slice none 0 0,.slice none 0 0,.string ⟨#[]⟩,.string ⟨#[]⟩] 53 (0,0))):=hid (by rw[<-hW1];exact j3 hg _ _);have HO1:Hid (W1.heap[g]?=some (.cells #[.int .i64 6,.int .i64 ty,.int .u64 n,.string S,.string ⟨raw.toArray⟩,.slice ao ps.length cap] 251 (0,0))):=hid (by rw[<-hW1,<-hg];exact(Below.heap_alloc _ _ _ (by simp)).trans (heap_alloc_new w _));have HB1:Hid (Below w.heap.size w W1):=hid (by rw[<-hW1];exact zb (zd _ _) (zd _ _));rw[hW1];clear hW1;refine(Zj g 5 (.slice ao ps.length cap) ps B W1 HO1 rfl (hid (y6 hown.out HB1.out)) hl (by omega)).mono ?_;rintro e w2 ⟨rfl,hb2⟩;obtain⟨Y,hY⟩:∃Y:ByteArray,(⟨ps.flatten.toArray⟩:ByteArray)=Y:=⟨_,rfl⟩
  have hYs:Y.size=ps.flatten.length:=by rw[<-hY];simp[ByteArray.size]
  have HYD:Hid (Y.data.toList=ps.flatten):=hid (by rw[<-hY]);rw[hY];have HX2:=hid ((hb2.block _ (z8 HX1.out)).trans HX1.out);have HB2:=hid (zb HB1.out hb2);have HL:=hid (zcn 57 Y d kr w2 (by omega) HE2.out hd (hid (fun Y' w' h=>hkr.out Y' w' (by omega))));clear hY hb2;go_wp2_with fail;refine HL.out.mono ?_;intro e w3 hpost;obtain⟨hb3,hcase⟩:=hpost;rw[HYD.out]at hcase;have HX3:=hid ((hb3.block _ (z8 HX2.out)).trans HX2.out);have HB3:=hid (zb HB2.out hb3);have HS2:Hid (g+1<w2.heap.size):=hid (z8 HX2.out);clear hb3;have hx0:=rc0 HX3.out;have hf0:=z7 HX3.out 0;have hx1:=rc1 HX3.out;have hf1:=z7 HX3.out 1;have hx2:=rc2 HX3.out;have hf2:=z7 HX3.out 2;have hx3:=rc3 HX3.out;have hf3:=z7 HX3.out 3;have hx4:=rc4 HX3.out;have hf4:=z7 HX3.out 4;have hx5:=rc5 HX3.out;have hf5:=z7 HX3.out 5;have hx6:=rc6 HX3.out;have hf6:=z7 HX3.out 6;have hx7:=rc7 HX3.out;have hf7:=z7 HX3.out 7
  cases hrd:yf kr ps.flatten d with
  | error c =>
   rw[hrd]at hcase;obtain⟨y,rfl,hec⟩:=hcase;obtain⟨T',z,rfl⟩:=hec.iface;have HEC:=hid hec;have HRR:Hid (zz vr kr ⟨⟨6,ty,n,s,raw⟩,ps⟩ d []=.error c):=hid (by rw[HST.out,hrd]);clear hec hrd;go_wp2_with fail;have hu:=(Upd.set w3 ⟨g+1,5,none⟩ (.slice none 0 0)).trans (Upd.set _ ⟨g+1,6,none⟩ (.string ⟨#[]⟩));have hua:Upd (fun k=>k=g+1) w3 _:=hu.trans (y5 _ (g+1) (.int .i64 6) (.string ⟨#[]⟩) (.bool false) (.int .u64 0) (.slice none 0 0) (.slice none 0 0) (.string ⟨#[]⟩) (.string ⟨#[]⟩));refine zi rfl rfl (ye (y4 (ze (ze HX3.out 5 (.slice none 0 0)) 6 (.string ⟨#[]⟩)) _ _ _ _ _ _ _ _) rfl) rfl ?_;refine⟨HB3.out.trans (hua.below (by have:=HB3.out.size;omega) (fun k _ h=>by have h:k=g+1:=h;have:=HGG.out;omega)),?_⟩;rw[HRR.out];obtain⟨ws,he⟩:=HEC.out;exact⟨_,_,rfl,ws,x8 hua (fun k hk b m e h=>by have hk:k=g+1:=hk;subst hk;rw[HX3.out]at h;simp at h) he⟩
  | ok xi =>
   obtain⟨xs,i⟩:=xi;rw[hrd]at hcase;obtain⟨lo,lc,rfl,hrs⟩:=hcase;have HRS:=hid hrs;have HRR:Hid (zz vr kr ⟨⟨6,ty,n,s,raw⟩,ps⟩ d []=.ok (.mk 6 [] false 0 [] xs i [])):=hid (by rw[HST.out,hrd]);clear hrs hrd;go_wp2_with fail;have hu:=(Upd.set w3 ⟨g+1,5,none⟩ (.slice lo xs.length lc)).trans (Upd.set _ ⟨g+1,6,none⟩ (.string ⟨i.toArray⟩));have hua:Upd (fun k=>k=g+1) w3 _:=hu.trans (y5 _ (g+1) (.int .i64 6) (.string ⟨#[]⟩) (.bool false) (.int .u64 0) (.slice none 0 0) (.slice lo xs.length lc) (.string ⟨i.toArray⟩) (.string ⟨#[]⟩));refine zi rfl rfl (ye (y4 (ze (ze HX3.out 5 (.slice lo xs.length lc)) 6 (.string ⟨i.toArray⟩)) _ _ _ _ _ _ _ _) rfl) rfl ?_;refine⟨HB3.out.trans (hua.below (by have:=HB3.out.size;omega) (fun k _ h=>by have h:k=g+1:=h;have:=HGG.out;omega)),?_⟩;rw[HRR.out];refine⟨[.int .i64 6,strV [],.bool false,.int .u64 0,.slice none 0 0,.slice lo xs.length lc,strV i,strV []],rfl,?_⟩;rw[VRel];exact⟨none,0,lo,lc,rfl,by rw[yv];trivial,y7.upd hua (fun k hk h=>by have h:k=g+1:=h;have:=HS2.out;omega) (fun k hk=>by have:=HB2.out.size;omega) _ _ _ HRS.out⟩
 have d1:((num:Int) == (1:Int))=false:=ibf (by omega)
 have d7:((num:Int) == (7:Int))=false:=ibf (by omega)
 have d2:((num:Int) == (2:Int))=false:=ibf (by omega)
 have d3:((num:Int) == (3:Int))=false:=ibf (by omega)
 have d4:((num:Int) == (4:Int))=false:=ibf (by omega)
 have d5:((num:Int) == (5:Int))=false:=ibf (by omega)
 have d6:((num:Int) == (6:Int))=false:=ibf (by omega)
 have HST:Hid (zz vr kr ⟨⟨num,ty,n,s,raw⟩,ps⟩ d []=.ok (.mk num [] false 0 [] [] [] [])):=hid (by unfold zz;simp[h1,h2,h3,h4,h5,h6,h7]);clear h1 h2 h3 h4 h5 h6 h7;go_enter Tryz.func139,Tryz.ntmps139;go_wp2_with fail;refine zi rfl rfl (ye (j3 hg _ _) rfl) rfl ?_;refine⟨zb (zd _ _) (zd _ _),?_⟩;rw[HST.out];exact⟨[.int .i64 num,strV [],.bool false,.int .u64 0,.slice none 0 0,.slice none 0 0,strV [],strV []],rfl,ql _ _ _ _ _ _⟩
end Go.Proofs.YtmlghmjjlpioeaaGreatDoor
