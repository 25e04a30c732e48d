/-
  hyglaw8.Wrong; hygref8.Fields, Takes, Unknown.
-/
import Derived.Test.YtmlghmjjlpioeaaGreatDoorWireRA
import Derived.Test.YtmlghmjjlpioeaaGreatDoorMsgWrite
set_option maxRecDepth 1000000
set_option maxHeartbeats 16000000
namespace Go.Proofs.YtmlghmjjlpioeaaGreatDoor
open Go.RowKit
open Lib (hid)
theorem za4 (q n c:Nat)(ws:List (Bool × Int))(v:Value)(w:World)(hE:isErr w ((true,(q:Int))::ws) v (k9 c))(hg:Glob w)(hq:q<=n)(hc:Qj c∨c=5) :
  Calls Tryz.prog 8 #[v,.int .i64 n] w fun e w'=>e=.returned (.bool true)/\Below w.heap.size w w':=by
 obtain⟨T,y,rfl⟩:=q6 hE (Xg _);have HE:=hid hE;have HG:=hid hg
 have h5:c=1∨c=3∨c=4∨c=5∨c=6:=by
  rcases hc with (h|h|h|h)|h<;>omega
 clear hE hg hc
 rcases h5 with rfl|rfl|rfl|rfl|rfl
 all_goals go_enter Tryz.func8,Tryz.ntmps8
 all_goals go_wp2_with fail
 all_goals refine(zde _ _ _ w HE.out (Xg _) HG.out).mono ?_
 all_goals rintro e w1 ⟨rfl,hb⟩
 all_goals rw[show Jh ((true,(q:Int))::ws)=(q:Int)from rfl,show Jm ((true,(q:Int))::ws)=true from rfl]
 all_goals have HE1:=hid (jf hb HE.out)
 all_goals have HG1:=hid (HG.out.below hb)
 all_goals have HB:=hid hb
 all_goals clear hb
 all_goals go_wp2_with fail
 all_goals refine(zf3 _ _ _ w1 HE1.out (Xg _) HG1.out).mono ?_
 all_goals rintro e w2 ⟨rfl,hb⟩
 all_goals have HB2:=hid (zb HB.out hb)
 all_goals clear hb
 ·rw[show Jb (k9 ((1:Nat):Int))=1 from rfl]
  go_wp2_with fail;go_ret;exact⟨rfl,HB2.out⟩
 ·rw[show Jb (k9 ((3:Nat):Int))=3 from rfl]
  go_wp2_with fail;go_ret;exact⟨rfl,HB2.out⟩
 ·rw[show Jb (k9 ((4:Nat):Int))=4 from rfl]
  go_wp2_with fail;go_ret;exact⟨rfl,HB2.out⟩
 ·rw[show Jb (k9 ((5:Nat):Int))=5 from rfl]
  go_wp2_with fail;go_ret;exact⟨rfl,HB2.out⟩
 ·rw[show Jb (k9 ((6:Nat):Int))=6 from rfl]
  go_wp2_with fail;go_ret;exact⟨rfl,HB2.out⟩
def y8 (l:List UInt8)(d:Int):Except Nat (List Rec):=if d<0 then .error 6 else wall l d
def xe (s:ByteArray)(d:Int)(w:World)(e:Ending)(w':World):Prop:=Below w.heap.size w w'/\match y8 s.data.toList d with
 | .error _=>e=.returned (.tuple #[.slice none 0 0,.bool false])
 | .ok rs=>∃u,e=.returned (.tuple #[u,.bool true])/\w'.ownsRow w.heap.size 88 5 u rs.length (rs.flatMap yb)
theorem kx (s:ByteArray)(d:Int)(w:World)(hs:s.size<=1000000000)(hd:d<=9223372036854775807) :
  Calls Tryz.prog 22 #[.string s,.int .i64 d] w (xe s d w):=by
 have HA:=hid (zfi s d w hs hd);clear hs hd
 by_cases h:d<0
 ·have d1:decide (d<0)=true:=decide_eq_true h
  have HF:Hid (y8 s.data.toList d=.error 6):=hid (by unfold y8;rw[if_pos h]);clear h;go_enter Tryz.func22,Tryz.ntmps22;go_wp2_with fail
  go_ret2
  refine⟨Below.refl _ _,?_⟩;rw[HF.out];exact rfl
 ·have d1:decide (d<0)=false:=decide_eq_false h
  have HF:Hid (y8 s.data.toList d=wall s.data.toList d):=hid (by unfold y8;rw[if_neg h]);clear h;go_enter Tryz.func22,Tryz.ntmps22;go_wp2_with fail;refine HA.out.mono ?_;intro e w1 hp;unfold Yu at hp
  cases hw:wall s.data.toList d with
  | error c =>
   rw[hw]at hp;obtain⟨rfl,hb⟩:=hp;have HB:=hid hb;have HW:=hid hw;clear hb hw;go_wp2_with fail
   go_ret2
   refine⟨HB.out,?_⟩;rw[HF.out,HW.out];exact rfl
  | ok rs =>
   rw[hw]at hp;obtain⟨u,rfl,ho,hb⟩:=hp;have HB:=hid hb;have HO:=hid ho;have HW:=hid hw;clear hb hw ho;go_wp2_with fail
   go_ret2
   refine⟨HB.out,?_⟩;rw[HF.out,HW.out];exact⟨u,rfl,HO.out⟩
def rtk (tab:List Nat)(r:Rec):Bool:=tab.any fun t=>decide (t/8=r.num/\t%8=r.ty)
theorem rtk_hit {tab:List Nat}{r:Rec}{j:Nat}(h:j<tab.length)(h1:tab[j]/8=r.num)(h2:tab[j]%8=r.ty):rtk tab r=true:=by
 unfold rtk;rw[List.any_eq_true];exact⟨tab[j],List.getElem_mem h,decide_eq_true ⟨h1,h2⟩⟩
theorem rtk_no {tab:List Nat}{r:Rec}(h:∀m (hm:m<tab.length),¬(tab[m]/8=r.num/\tab[m]%8=r.ty)):rtk tab r=false:=by
 unfold rtk;rw[List.any_eq_false];intro x hx;obtain⟨m,hm,rfl⟩:=List.getElem_of_mem hx
 simpa using h m hm
theorem kz (tab:List Nat)(ao:Option Addr)(cap:Nat)(r:Rec)(w:World)(ha:Hid (Nats .i64 w ao tab))(hl:tab.length<=1000000)(ht:∀t∈tab,t<=1000000) :
  Calls Tryz.prog 23 #[.slice ao tab.length cap,recV r] w fun e w'=>e=.returned (.bool (rtk tab r))/\Below w.heap.size w w':=by
 obtain⟨n,hn⟩:=nmd (tab.length)
 have HA0:=hid hn;have HT:=hid ht;rw[hn]at hl ⊢;obtain⟨W0,hW0⟩:∃W,w.alloc (.cells (yb r).toArray 88)=W:=⟨_,rfl⟩
 have HB0:Hid (Below w.heap.size w W0):=hid (by rw[<-hW0];exact zd _ _);have HR0:Hid (W0.heap[w.heap.size]?=some (.cells (yb r).toArray 88 (0,0))):=hid (by rw[<-hW0];exact heap_alloc_new w _);have HW0:=hid hW0;have HN0:=hid (ha.out.below HB0.out);obtain⟨p,hp⟩:=nmd (w.heap.size)
 have HP:=hid hp;have HPL:Hid (p<W0.heap.size):=hid (by rw[<-hp];exact z8 HR0.out);rw[hp]at HR0;clear hn hW0 ha ht;unfold recV;go_enter Tryz.func23,Tryz.ntmps23;go_wp2_with fail;rw[show(w.alloc (.cells #[.int .i64 r.num,.int .i64 r.ty,.int .u64 r.n,.string ⟨r.s.toArray⟩,.string ⟨r.raw.toArray⟩] 88))=W0 from HW0.out];clear hp
 go_loopg [5] n (fun k i wr=>∃j:Nat,j+k=n/\i=.int .i64 j/\Hid (∀m (hm:m<tab.length),m<j->¬(tab[m]/8=r.num/\tab[m]%8=r.ty))/\Below W0.heap.size W0 wr)
 case atStart=>exact⟨0,by omega,rfl,hid (fun m _ h=>by omega),Below.refl _ _⟩
 case round =>
  obtain⟨j,hj,rfl,HM,hbr⟩:=hrel;have HB:=hid hbr;have HJ:=hid hj;have HA:=hid (HN0.out.below hbr);have HRR:=hid ((hbr.block _ HPL.out).trans HR0.out);have hjl:j<=n:=by omega
  clear hj hbr
  by_cases hlt:j<n
  ·obtain⟨g,off,x,HX,rfl,hbl,hc⟩:=HA.out.at (i:=j) (by rw[HA0.out];exact hlt)
   have hxl:x<=1000000:=by rw[HX.out];exact HT.out _ (List.getElem_mem _)
   have hI:Below wr.heap.size wr wr.drew:=(Below.refl _ _).drew;have hne:Nonempty { w':World // Below wr.heap.size wr w' }:=⟨⟨_,hI⟩⟩
   have hc3:∀t:{ w':World // Below wr.heap.size wr w' },t.1.cell? ⟨g,off+j,none⟩=some (.int .i64 x):=fun t=>(t.2.cell (p:=⟨g,off+j,none⟩) hbl).trans hc
   have hc4:∀t:{ w':World // Below wr.heap.size wr w' },t.1.cell? ⟨p,0,none⟩=some (.int .i64 r.num):=fun t=>za ((t.2.block _ (z8 HRR.out)).trans HRR.out) (j:=0) rfl
   have hc5:∀t:{ w':World // Below wr.heap.size wr w' },t.1.cell? ⟨p,1,none⟩=some (.int .i64 r.ty):=fun t=>za ((t.2.block _ (z8 HRR.out)).trans HRR.out) (j:=1) rfl
   obtain⟨xq,hxq⟩:∃q,x/8=q:=⟨_,rfl⟩
   obtain⟨xr,hxr⟩:∃q,x%8=q:=⟨_,rfl⟩
   have q1:IntKind.i64.wrap ((x:Int)/8)=(xq:Int):=by
    rw[show(x:Int)/8=((x/8:Nat):Int)from rfl,hxq];exact IntWalk.i64_in _ (by omega)
   have q2:(x:Int).tmod 8=(xr:Int):=by
    rw[show(x:Int).tmod 8=((x%8:Nat):Int)from rfl,hxr]
   have HXQ:=hid hxq;have HXR:=hid hxr;clear hxq hxr
   by_cases h1:xq=r.num
   ·have d1:((xq:Int) == (r.num:Int))=true:=by rw[beq_iff_eq];omega
    by_cases h2:xr=r.ty
    ·have d2:((xr:Int) == (r.ty:Int))=true:=by rw[beq_iff_eq];omega
     go_wp2_with fail;refine zj (S:=fun w'=>Below wr.heap.size wr w') [(0,true),(1,true),(2,true),(3,true),(4,true),(5,true),(6,true),(7,true),(8,true),(9,true),(10,true),(11,true),(12,true),(13,true),(14,true),(15,true),(16,true),(17,true)] (by kernel_rfl) (by kernel_rfl) (by kernel_rfl) (by kernel_rfl) hI ?_
     iterate 18 (refine zf _ rfl (fun K hK=>?_);go_simp;(first|refine hK _ ?_|refine⟨undef,by rw[if_neg (by simp[undef])],hK _ ?_⟩);clear hK K)
     refine zw ?_;clear hc3 hc4 hc5;have HE:Hid (rtk tab r=true):=hid (rtk_hit (j:=j) (by rw[HA0.out];exact hlt) (by rw[<-HX.out,HXQ.out];exact h1) (by rw[<-HX.out,HXR.out];exact h2));clear h1 h2;go_wp2_with fail;go_ret;exact⟨by rw[HE.out];rfl,zb HB0.out (HB.out.trans (hI.mono HB.out.size))⟩
    ·have d2:((xr:Int) == (r.ty:Int))=false:=ibf (by omega)
     have HN:Hid (¬(xq=r.num/\xr=r.ty)):=hid (fun h=>h2 h.2);clear h1 h2;go_wp2_with fail;refine zj (S:=fun w'=>Below wr.heap.size wr w') [(0,true),(1,true),(2,true),(3,true),(4,true),(5,true),(6,true),(7,true),(8,true),(9,true),(10,true),(11,true),(12,true),(13,true),(14,true),(15,true),(16,true),(17,true)] (by kernel_rfl) (by kernel_rfl) (by kernel_rfl) (by kernel_rfl) hI ?_
     iterate 18 (refine zf _ rfl (fun K hK=>?_);go_simp;(first|refine hK _ ?_|refine⟨undef,by rw[if_neg (by simp[undef])],hK _ ?_⟩);clear hK K)
     refine zw ?_;clear hc3 hc4 hc5
     have HM2:Hid (∀m (hm:m<tab.length),m<j+1->¬(tab[m]/8=r.num/\tab[m]%8=r.ty)):=hid (fun m hm hmj=>by
      by_cases hq:m=j
      ·subst hq
       have hx:=HX.out;have hn:=HN.out;intro ⟨e1,e2⟩;rw[<-hx]at e1 e2;rw[HXQ.out]at e1;rw[HXR.out]at e2;exact hn ⟨e1,e2⟩
      ·exact HM.out m hm (by omega))
     go_wp2_with fail;have hj:=HJ.out
     go_roundg (gk-1)
     case measure=>omega
     case rel=>exact⟨j+1,by omega,by simp,HM2,HB.out.trans (hI.mono HB.out.size)⟩
   ·have d1:((xq:Int) == (r.num:Int))=false:=ibf (by omega)
    have HN:Hid (¬(xq=r.num/\xr=r.ty)):=hid (fun h=>h1 h.1);clear h1;go_wp2_with fail;refine zj (S:=fun w'=>Below wr.heap.size wr w') [(0,true),(1,true),(2,true),(3,true),(4,true),(5,true),(6,true),(7,true),(8,true),(9,true),(10,true),(11,true),(12,true),(13,true),(14,true),(15,true),(16,true),(17,true)] (by kernel_rfl) (by kernel_rfl) (by kernel_rfl) (by kernel_rfl) hI ?_
    iterate 18 (refine zf _ rfl (fun K hK=>?_);go_simp;(first|refine hK _ ?_|refine⟨undef,by rw[if_neg (by simp[undef])],hK _ ?_⟩);clear hK K)
    refine zw ?_;clear hc3 hc4 hc5
    have HM2:Hid (∀m (hm:m<tab.length),m<j+1->¬(tab[m]/8=r.num/\tab[m]%8=r.ty)):=hid (fun m hm hmj=>by
     by_cases hq:m=j
     ·subst hq
      have hx:=HX.out;have hn:=HN.out;intro ⟨e1,e2⟩;rw[<-hx]at e1 e2;rw[HXQ.out]at e1;rw[HXR.out]at e2;exact hn ⟨e1,e2⟩
     ·exact HM.out m hm (by omega))
    go_wp2_with fail;have hj:=HJ.out
    go_roundg (gk-1)
    case measure=>omega
    case rel=>exact⟨j+1,by omega,by simp,HM2,HB.out.trans (hI.mono HB.out.size)⟩
  ·have hjn:j=n:=by have:=HJ.out;omega
   have HE:Hid (rtk tab r=false):=hid (rtk_no fun m hm=>HM.out m hm (by rw[HA0.out]at hm;omega));go_wp2_with fail;go_ret;exact⟨by rw[HE.out];rfl,zb HB0.out HB.out⟩
theorem z2m:∀(rs:List Rec),(∀r∈rs,2<=r.raw.length)->2*rs.length<=(rs.flatMap Rec.raw).length
 | [],_=>by simp
 | r::rs,h=>by
  have h1:=h r (List.mem_cons_self ..);have h2:=z2m rs fun x hx=>h x (List.mem_cons_of_mem _ hx)
  rw[List.flatMap_cons,List.length_append,List.length_cons];omega
theorem kd {l:List UInt8}{d:Int}{rs:List Rec}(h:wall l d=.ok rs):rs.length<=l.length:=by
 have h1:=xh l.length (Nat.le_refl _) h;have h2:=z2m rs h1.2;rw[h1.1]at h2;omega
end Go.Proofs.YtmlghmjjlpioeaaGreatDoor
