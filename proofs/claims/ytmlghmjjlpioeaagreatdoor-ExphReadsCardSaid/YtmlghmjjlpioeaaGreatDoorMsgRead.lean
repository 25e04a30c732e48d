/-
  strings.Join of texts, nothing between them.
-/
import Derived.Test.YtmlghmjjlpioeaaGreatDoorOrd
import Derived.Test.YtmlghmjjlpioeaaGreatDoorMsgMath
import Derived.Test.YtmlghmjjlpioeaaGreatDoorUtf2
import Derived.Deep.Cut
set_option maxRecDepth 1000000
set_option maxHeartbeats 16000000
namespace Go.Proofs.YtmlghmjjlpioeaaGreatDoor
open Go.RowKit
open Lib (hid)
theorem z05:∀(l:List (List UInt8)),Lib.join l []=l.flatten
 | []=>rfl
 | [a]=>by simp[Lib.join]
 | a::b::l=>by
  have:=z05 (b::l)
  simp[Lib.join]at this ⊢
  exact this
theorem z1z (ao:Option Addr)(cap:Nat)(l:List (List UInt8))(w:World)(h:Strs w ao l)(hcap:l.length<=cap)(hl:l.length<=100000000)(hf:l.flatten.length<=100000000) :
  Calls Tryz.prog 55 #[.slice ao l.length cap,.string ⟨#[]⟩] w fun e w'=>e=.returned (.string ⟨l.flatten.toArray⟩)/\Below w.heap.size w w':=by
 by_cases hn:l=[]
 ·subst hn
  refine(Tryz.strings_Join_none ao cap ⟨#[]⟩ w).mono ?_;rintro e w' ⟨rfl,rfl⟩;exact⟨rfl,Below.refl _ _⟩
 ·obtain⟨b,off,rfl,hb,hc⟩:=h hn
  have hm:(l.map fun t=>(⟨t.toArray⟩:ByteArray)).map (·.data.toList)=l:=by simp[List.map_map,Function.comp_def]
  have key:=Tryz.strings_Join b off cap (l.map fun t=>(⟨t.toArray⟩:ByteArray)) ⟨#[]⟩ w (fun j x hx=>by
   rw[List.getElem?_map]at hx;obtain⟨t,ht,rfl⟩:=Option.map_eq_some_iff.1 hx;obtain⟨hj,rfl⟩:=List.getElem?_eq_some_iff.1 ht;exact hc j hj) hb (by rw[List.length_map];omega) (by rw[List.length_map];exact hcap) (by rw[hm,show(⟨#[]⟩:ByteArray).data.toList=[]from rfl,z05];omega)
  rw[hm,show(⟨#[]⟩:ByteArray).data.toList=[]from rfl,z05,List.length_map]at key;exact key
theorem Zs (n:Int)(t:TypeId)(v:Value)(w:World) :
  Calls Tryz.prog 18 #[.int .i64 n,.iface t v] w fun e w'=>e=.returned (.iface 139 (.pointer (some ⟨w.heap.size,0,none⟩)))/\w'=w.alloc (.cells #[.int .i64 n,.iface t v] 141):=by
 go_enter Tryz.func18,Tryz.ntmps18
 go_wp2
 all_goals go_ret
 all_goals exact⟨rfl,rfl⟩
theorem Xe (n:Int)(w:World) :
  Calls Tryz.prog 18 #[.int .i64 n,.nilIface] w fun e w'=>e=.returned .nilIface/\w=w':=by
 go_enter Tryz.func18,Tryz.ntmps18
 go_wp2
 all_goals go_ret
 all_goals exact⟨rfl,rfl⟩
theorem Tryz.elStrM:Elem Tryz.prog 70 9 (.string ⟨#[]⟩) 1 16:=⟨Tryz.underlying70,by kernel_rfl,by decide⟩
theorem y0 {rs:List Rec}{i j:Nat}(hi:i<rs.length)(hj:j<5):(rs.flatMap yb)[5*i+j]?=(yb rs[i])[j]?:=by
 induction rs generalizing i with
 | nil=>simp at hi
 | cons r rs ih =>
  rw[List.flatMap_cons]
  cases i with
  | zero=>rw[Nat.mul_zero,Nat.zero_add,List.getElem?_append_left (by simpa [yb] using hj)];rfl
  | succ i =>
   have hl:(yb r).length=5:=rfl;rw[List.getElem?_append_right (by omega),hl,show 5*(i+1)+j-5=5*i+j by omega];exact ih (by simpa using hi)
def EW (w:World)(v:Value)(q c:Nat):Prop:=∃ws,isErr w ((true,(q:Int))::ws) v (k9 c)
def EC (w:World)(v:Value)(c:Nat):Prop:=∃ws,isErr w ws v (k9 c)
theorem EC.iface {w:World}{v:Value}{c:Nat}(h:EC w v c):∃T x,v=.iface T x:=by
 obtain⟨ws,h⟩:=h;exact q6 h (Xg c)
theorem EW.iface {w:World}{v:Value}{q c:Nat}(h:EW w v q c):∃T x,v=.iface T x:=by
 obtain⟨ws,h⟩:=h;exact q6 h (Xg c)
theorem EW.below {w w':World}{v:Value}{q c:Nat}(h:EW w v q c)(hb:Below w.heap.size w w'):EW w' v q c:=by
 obtain⟨ws,h⟩:=h;exact⟨ws,jf hb h⟩
theorem EW.ec {w:World}{v:Value}{q c:Nat}(h:EW w v q c):EC w v c:=by
 obtain⟨ws,h⟩:=h;exact⟨_,h⟩
theorem EC.below {w w':World}{v:Value}{c:Nat}(h:EC w v c)(hb:Below w.heap.size w w'):EC w' v c:=by
 obtain⟨ws,h⟩:=h;exact⟨ws,jf hb h⟩
theorem EW.ofNew {w w':World}{v:Value}{q c:Nat}(h:yq w (q:Int) (c:Int) v w'):EW w' v q c:=⟨[],h.isErr⟩
theorem ew_at {w:World}{v:Value}{q c:Nat}(h:EC w v c):EW (w.alloc (.cells #[.int .i64 q,v] 166)) (.iface 162 (.pointer (some ⟨w.heap.size,0,none⟩))) q c:=by
 obtain⟨ws,h⟩:=h;exact⟨ws,w.heap.size,v,rfl,by simp,heap_alloc_new w _,jf ((Below.refl _ _).alloc (Nat.le_refl _) _) h⟩
structure j5 (σ:Type) where
 rel:σ->(Nat->Prop)->World->Prop
 lt:∀st P w,rel st P w->∀k,P k->k<w.heap.size
 kept:∀st P w w',rel st P w->Upd (fun k=>¬P k) w w'->rel st P w'
def xx {σ:Type}(R:j5 σ)(step:σ->Rec->Except Nat σ)(st:σ)(P:Nat->Prop)(r:Rec)(w:World)(e:Ending)(w':World):Prop :=
 Upd P w w'/\match step st r with
  | .error c=>∃v,e=.returned v/\EC w' v c
  | .ok st'=>e=.returned .nilIface/\∃P',R.rel st' P' w'/\∀k,P' k->P k∨w.heap.size<=k
def z23 {σ:Type}(R:j5 σ)(tk:Rec->Bool)(step:σ->Rec->Except Nat σ)(st:σ)(P:Nat->Prop)(s:ByteArray)(d:Int)(w:World)(e:Ending)(w':World):Prop :=
 Upd P w w'/\match zq tk step st s.data.toList d with
  | .error c=>∃v q,e=.returned (.tuple #[.string ⟨#[]⟩,v])/\q<=s.size/\EW w' v q c
  | .ok (st',u)=>e=.returned (.tuple #[.string ⟨u.toArray⟩,.nilIface])/\∃P',R.rel st' P' w'/\∀k,P' k->P k∨w.heap.size<=k
theorem kn {σ:Type} (R:j5 σ) (tk:Rec->Bool) (step:σ->Rec->Except Nat σ) (FT FK:Nat) (caps:Array Value) (st0:σ) (s:ByteArray) (d:Int) (w:World) (hs:s.size<=1000000)
  (hET:∀args w,(callFunc FT args).run Tryz.prog w=.ok (.enter FT args) w) (hEK:∀args w,(callFunc FK args).run Tryz.prog w=.ok (.enter FK args) w)
  (hT:∀(r:Rec) (w:World),(∀rs,wall s.data.toList d=.ok rs->r∈rs)->Calls Tryz.prog FT #[.int .i64 r.num,.int .i64 r.ty] w fun e w'=>e=.returned (.bool (tk r))/\w=w')
  (hK:∀(r:Rec) (st:σ) (P:Nat->Prop) (w:World),tk r=true->zt d r->r.raw.length<=s.size->(∀rs,wall s.data.toList d=.ok rs->r∈rs)->(∃pre:List Rec,(∀x∈pre,zt d x)/\zg tk step st0 pre=.ok st/\(pre.flatMap Rec.raw).length+r.raw.length<=s.size)->R.rel st P w->Calls Tryz.prog FK (#[recV r]++caps) w (xx R step st P r w))
  (P0:Nat->Prop) (h0:R.rel st0 P0 w) :
  Calls Tryz.prog 15 #[.string s,.int .i64 d,.func (.func FT) #[] #[],.func (.func FK) #[] caps] w (z23 R tk step st0 P0 s d w):=by
 have HH0:=hid h0
 by_cases hd:d<0
 ·have d1:decide (d<0)=true:=decide_eq_true hd
  have HM:Hid (zq tk step st0 s.data.toList d=.error 6):=hid (by unfold zq;rw[if_pos hd]);clear hT hK h0;go_enter Tryz.func15,Tryz.ntmps15;go_wp2_with fail;refine(qe _ _ _ _).mono ?_;rintro e w' ⟨rfl,rfl⟩;go_wp2_with fail
  go_ret2
  refine⟨Upd.alloc _ _ _,?_⟩;rw[HM.out];exact⟨_,0,rfl,by omega,ew_at ⟨[],rfl⟩⟩
 ·have d1:decide (d<0)=false:=decide_eq_false hd
  cases hw:wall s.data.toList d with
  | error c =>
   have HM:Hid (zq tk step st0 s.data.toList d=.error c):=hid (by unfold zq;rw[if_neg hd,hw]);have HW:=hid hw;clear hT hK h0 hw;go_enter Tryz.func15,Tryz.ntmps15;go_wp2_with fail;refine(z1e s d _ (by omega)).mono ?_;intro e w1 hpost;unfold Zi at hpost
   rw[HW.out]at hpost;obtain⟨v,rfl,q,hq,hE⟩:=hpost;obtain⟨T,y,rfl⟩:=hE.iface;have HE:=hid hE;clear hE;go_wp2_with fail
   go_ret2
   refine⟨Upd.of_new HE.out.2,?_⟩;rw[HM.out];exact⟨_,q,rfl,hq,EW.ofNew HE.out⟩
  | ok rs =>
   have HM:Hid (zq tk step st0 s.data.toList d=match zg tk step st0 rs with
    | .error c => .error c
    | .ok st' => .ok (st',munk tk rs)):=hid (by unfold zq;rw[if_neg hd,hw];rfl)
   have HW:=hid hw;have HRS:=hid (xp _ (Nat.le_refl _) hw);have HRAW:=hid (xh _ (Nat.le_refl _) hw).1;have HT:=hid hT;have HK:=hid hK;have HSZ:=hid hs;clear hT hK h0 hw;go_enter Tryz.func15,Tryz.ntmps15;go_wp2_with fail;refine(z1e s d _ (by omega)).mono ?_;intro e w1 hpost;unfold Zi at hpost
   rw[HW.out]at hpost;obtain⟨u,rfl,hown,hlen,hb1⟩:=hpost;obtain⟨lo,lcap,rfl⟩:=zh hown;have HB1:=hid hb1;have HO1:=hid hown;have HH1:=hid (R.kept _ _ _ _ HH0.out (Upd.of_new hb1));have hw1:=hb1.size;clear hb1 hown;go_wp2_with fail
   go_loopg [12,13,32] rs.length (fun g v av i wr=>∃(j at':Nat) (st:σ) (P:Nat->Prop) (U:List (List UInt8)),j+g=rs.length/\i=.int .i64 j/\av=.int .i64 (at':Int)/\Hid (at'=((rs.take j).flatMap Rec.raw).length)/\Hid (U=(q7 tk (rs.take j)).map Rec.raw)/\Hid (zg tk step st0 (rs.take j)=.ok st)/\Hid (R.rel st P wr)/\Hid (∀k,P k->P0 k∨w1.heap.size<=k)/\wr.ownsRow w1.heap.size 9 1 v U.length (U.map strV)/\Hid (∀k,v.ownBlock=some k->¬P k)/\Hid (Upd P0 w wr)/\w1.heap.size<=wr.heap.size/\Hid (wr.ownsRow w.heap.size 78 5 (.slice lo rs.length lcap) rs.length (rs.flatMap yb)))
   case atStart=>exact⟨0,0,st0,P0,[],by omega,rfl,rfl,hid (by simp),hid (by simp[q7]),hid (by simp[zg]),HH1,hid (fun k h => .inl h),World.ownsRow_nil _ _ _ _,hid (fun k h=>by simp[Value.ownBlock]at h),hid (Upd.of_new HB1.out),Nat.le_refl _,HO1⟩
   case round =>
    obtain⟨j,at',st,P,U,hj,rfl,rfl,HAT,HU,HFW,HR,HP,hown,HNV,HUP,hw1r,HO⟩:=hrel;obtain⟨ao,cap,rfl⟩:=zh hown
    have HF:Hid (zg tk step st0 rs=zg tk step st (rs.drop j)):=hid (by
     have:=yr tk step (rs.take j) (rs.drop j) st0;rw[List.take_append_drop,HFW.out]at this;exact this)
    have HJ:=hid hj;clear hj;have hwr:=HUP.out.size
    by_cases hlt:j<rs.length
    ·obtain⟨g,cg,hv,hg1,hg2,_,_⟩:=yj HO.out (by omega)
     simp only[Value.slice.injEq]at hv
     obtain⟨rfl,_,rfl⟩:=hv;obtain⟨r,HRJ⟩:∃r,Hid (rs[j]=r):=⟨_,hid rfl⟩
     have hc0:wr.cell? ⟨g,j*5,none⟩=some (.int .i64 r.num):=by rw[HO.out.cellAt (j*5) (by omega),show j*5=5*j+0 by omega,y0 hlt (by omega),HRJ.out];rfl
     have hc1:wr.cell? ⟨g,j*5+1,none⟩=some (.int .i64 r.ty):=by rw[HO.out.cellAt (j*5+1) (by omega),show j*5+1=5*j+1 by omega,y0 hlt (by omega),HRJ.out];rfl
     have hc2:wr.cell? ⟨g,j*5+2,none⟩=some (.int .u64 r.n):=by rw[HO.out.cellAt (j*5+2) (by omega),show j*5+2=5*j+2 by omega,y0 hlt (by omega),HRJ.out];rfl
     have hc3:wr.cell? ⟨g,j*5+3,none⟩=some (.string ⟨r.s.toArray⟩):=by rw[HO.out.cellAt (j*5+3) (by omega),show j*5+3=5*j+3 by omega,y0 hlt (by omega),HRJ.out];rfl
     have hc4:wr.cell? ⟨g,j*5+4,none⟩=some (.string ⟨r.raw.toArray⟩):=by rw[HO.out.cellAt (j*5+4) (by omega),show j*5+4=5*j+4 by omega,y0 hlt (by omega),HRJ.out];rfl
     have hNG:Hid (¬P g):=hid (fun h=>by
      have h9:=HO1.out.lt g rfl
      rcases HP.out g h with h|h
      ·have:=R.lt _ _ _ HH0.out g h
       omega
      ·omega)
     have HNG:Hid (¬P g):=hid (fun h=>by
      have h9:g<w1.heap.size:=(HO1.out.lt g rfl).2
      rcases HP.out g h with h|h
      ·have:=R.lt _ _ _ HH0.out g h
       omega
      ·omega)
     have HMEM:Hid (r∈rs):=hid (HRJ.out ▸ List.getElem_mem hlt);have HTK:Hid (rs.take (j+1)=rs.take j++[r]):=hid (by rw[List.take_succ_eq_append_getElem hlt,HRJ.out]);have HDR:Hid (rs.drop j=r::rs.drop (j+1)):=hid (by rw[<-HRJ.out];exact List.drop_eq_getElem_cons hlt)
     have hraw:r.raw.length<=s.size:=by
      have:=raw_le HRAW.out HMEM.out
      simpa using this
     have hat9:at'<=s.size:=by
      have:=jr HRAW.out j;rw[<-HAT.out]at this
      simpa using this
     have HAT2:Hid (at'+r.raw.length=((rs.take (j+1)).flatMap Rec.raw).length):=hid (by rw[HTK.out,List.flatMap_append,List.length_append,<-HAT.out];simp);obtain⟨W0,hW0⟩:=nmd (wr.alloc (.cells #[.int .i64 r.num,.int .i64 r.ty,.int .u64 r.n,.string ⟨r.s.toArray⟩,.string ⟨r.raw.toArray⟩] 78))
     have hub:Upd (fun _=>False) wr W0:=by rw[<-hW0];exact Upd.alloc _ _ _
     have HRB:Hid (W0.heap[wr.heap.size]?=some (.cells #[.int .i64 r.num,.int .i64 r.ty,.int .u64 r.n,.string ⟨r.s.toArray⟩,.string ⟨r.raw.toArray⟩] 78 (0,0))):=hid (by rw[<-hW0];exact heap_alloc_new wr _);have HSW:Hid (W0.heap.size=wr.heap.size+1):=hid (by rw[<-hW0];simp);have hw1W:w1.heap.size<=W0.heap.size:=by have:=HSW.out;omega
     have HU0:=hid hub;have HW0:=hid hW0;clear hW0
     cases htk:tk r with
     | false =>
      have HTKR:=hid htk;clear htk hub;go_wp2_with fail;rw[HW0.out];refine(HT.out r _ (fun rs' h'=>by rw[HW.out]at h';simp only[Except.ok.injEq]at h';subst h';exact HMEM.out)).mono ?_;rintro e w' ⟨rfl,rfl⟩;rw[HTKR.out];have hr4:=rc4 HRB.out;have hown0:W0.ownsRow w1.heap.size 9 1 (.slice ao U.length cap) U.length (U.map strV):=HU0.out.own hown (fun _ _ h=>h)
      have hU9:U.length<=s.size:=by
       have h1:U.length<=rs.length:=by
        rw[HU.out,List.length_map];have:=List.length_filter_le (fun r=>!tk r) (rs.take j);unfold q7;rw[List.length_take]at this;omega
       omega
      have hsz9:=HSZ.out;go_wp2_with (at_builtin;refine xw (c:=1) (cs:=[.string ⟨r.raw.toArray⟩]) rfl _ _ 70 rfl Tryz.elStrM (by decide) hown0 rfl (by show Value.slice (some ⟨W0.heap.size,0,none⟩) 1 1=_;simp) rfl (by simp[Value.oneCell']) (by unfold maxLen;omega) (by omega) (by omega) ?_;intro g' cap' w2 hown2 hgrow hng;have HR2:Hid (w2.heap[wr.heap.size]?=some (.cells #[.int .i64 r.num,.int .i64 r.ty,.int .u64 r.n,.string ⟨r.s.toArray⟩,.string ⟨r.raw.toArray⟩] 78 (0,0))):=hid ((hgrow.block _ (z8 HRB.out) (fun e=>by have h7:=(hown.lt _ e.symm).2;omega)).trans HRB.out);have hr4':=rc4 HR2.out);have hgu:Upd (fun k=>(Value.slice ao U.length cap).ownBlock=some k) W0 w2:=Upd.of_grown hgrow;have hWwr:wr.heap.size<=W0.heap.size:=by have:=HSW.out;omega
      have HR2':Hid (R.rel st P w2):=hid (R.kept _ _ _ _ (R.kept _ _ _ _ HR.out (HU0.out.mono fun _ _ h=>h.elim)) (hgu.mono fun k _ h hp=>HNV.out k h hp));have HUP2:Hid (Upd P0 w w2):=hid ((HUP.out.trans' HU0.out (fun _ _ h=>h.elim)).trans' hgu (fun k hk h=>by have:=(hown.lt _ h).1;omega))
      have HO2:Hid (w2.ownsRow w.heap.size 78 5 (.slice (some ⟨g,0,none⟩) rs.length lcap) rs.length (rs.flatMap yb)):=hid (hgu.own (HU0.out.own HO.out (fun _ _ h=>h)) (fun k hk h=>by
       have hk':k=g:=by simp[Value.ownBlock]at hk;omega
       subst hk';have:=(hown.lt _ h).1;have h9:k<w1.heap.size:=(HO1.out.lt k rfl).2;omega))
      have HNV2:Hid (∀k,(Value.slice (some ⟨g',0,none⟩) (U.length+1) cap').ownBlock=some k->¬P k):=hid (fun k hk hp=>by
       have hk':k=g':=by simp[Value.ownBlock]at hk;omega
       subst hk'
       rcases hng with h|h
       ·exact HNV.out k h hp
       ·have:=R.lt _ _ _ HR.out k hp
        omega)
      have hw12:w1.heap.size<=w2.heap.size:=by have:=hgu.size;omega
      have hw12':=hid hw12
      have HOW2:Hid (w2.ownsRow w1.heap.size 9 1 (.slice (some ⟨g',0,none⟩) (U++[r.raw]).length cap') (U++[r.raw]).length ((U++[r.raw]).map strV)):=hid (by
       rw[List.length_append,List.map_append];exact hown2)
      have HU2:Hid (U++[r.raw]=(q7 tk (rs.take (j+1))).map Rec.raw):=hid (by
       rw[HTK.out,HU.out];unfold q7;rw[List.filter_append,List.map_append];simp[HTKR.out])
      have HF2:Hid (zg tk step st0 (rs.take (j+1))=.ok st):=hid (by
       rw[HTK.out,yr,HFW.out]
       simp[zg,HTKR.out])
      have hj:=HJ.out;clear hown hown0 hown2 hgrow hgu hng
      go_roundg (gk-1)
      case measure=>omega
      case rel=>exact⟨j+1,at'+r.raw.length,st,P,U++[r.raw],by omega,by simp,by simp,HAT2,HU2,HF2,HR2',HP,by simpa using HOW2.out,by simpa using HNV2,HUP2,hw12,HO2⟩
     | true =>
      have HTKR:=hid htk;clear htk hub;go_wp2_with fail;rw[HW0.out];refine(HT.out r _ (fun rs' h'=>by rw[HW.out]at h';simp only[Except.ok.injEq]at h';subst h';exact HMEM.out)).mono ?_;rintro e w' ⟨rfl,rfl⟩;rw[HTKR.out];have hr0:=rc0 HRB.out;have hr1:=rc1 HRB.out;have hr2:=rc2 HRB.out;have hr3:=rc3 HRB.out;have hr4:=rc4 HRB.out
      have HPRE:Hid (∃pre:List Rec,(∀x∈pre,zt d x)/\zg tk step st0 pre=.ok st/\(pre.flatMap Rec.raw).length+r.raw.length<=s.size):=hid ⟨rs.take j,fun x hx=>HRS.out x (List.mem_of_mem_take hx),HFW.out,by
       have:=jr HRAW.out (j+1);rw[HTK.out,List.flatMap_append,List.length_append]at this
       simpa using this⟩
      have HRW0:Hid (R.rel st P W0):=hid (R.kept _ _ _ _ HR.out (HU0.out.mono fun _ _ h=>h.elim));go_wp2_with fail;refine(HK.out r st P W0 HTKR.out (HRS.out r HMEM.out) hraw (fun rs' h'=>by rw[HW.out]at h';simp only[Except.ok.injEq]at h';subst h';exact HMEM.out) HPRE.out HRW0.out).mono ?_;intro e w2 hpost;obtain⟨hu,hcase⟩:=hpost;have hn0:¬P wr.heap.size:=fun h=>by have:=R.lt _ _ _ HR.out _ h;omega
      have HRB2:Hid (w2.heap[wr.heap.size]?=some (.cells #[.int .i64 r.num,.int .i64 r.ty,.int .u64 r.n,.string ⟨r.s.toArray⟩,.string ⟨r.raw.toArray⟩] 78 (0,0))):=hid ((hu.block _ (z8 HRB.out) hn0).trans HRB.out)
      have HUP2:Hid (Upd P0 w w2):=hid ((HUP.out.trans' HU0.out (fun _ _ h=>h.elim)).trans' hu (fun k hk h=>by
       rcases HP.out k h with h|h
       ·exact h
       ·omega))
      have hs2:=hu.size
      cases hst:step st r with
      | error c =>
       rw[hst]at hcase;obtain⟨v,rfl,hec⟩:=hcase;obtain⟨T,y,rfl⟩:=hec.iface;have HEC:=hid hec
       have HME:Hid (zq tk step st0 s.data.toList d=.error c):=hid (by
        rw[HM.out,HF.out,HDR.out,zg,if_pos HTKR.out,hst])
       clear hec hu hst hr0 hr1 hr2 hr3 hr4 hn0 hown;go_wp2_with fail;refine(qe _ _ _ _).mono ?_;rintro e w' ⟨rfl,rfl⟩;go_wp2_with fail
       go_ret2
       refine⟨HUP2.out.trans (Upd.alloc _ _ _),?_⟩;rw[HME.out];exact⟨_,at',rfl,hat9,ew_at HEC.out⟩
      | ok st' =>
       rw[hst]at hcase;obtain⟨rfl,P',hr',hp'⟩:=hcase;have HR2':=hid hr';have HPP:=hid hp'
       have HO2:Hid (w2.ownsRow w.heap.size 78 5 (.slice (some ⟨g,0,none⟩) rs.length lcap) rs.length (rs.flatMap yb)):=hid (hu.own (HU0.out.own HO.out (fun _ _ h=>h)) (fun k hk h=>by
        have hk':k=g:=by simp[Value.ownBlock]at hk;omega
        rw[hk']at h;exact HNG.out h))
       have hown2:w2.ownsRow w1.heap.size 9 1 (.slice ao U.length cap) U.length (U.map strV):=hu.own (HU0.out.own hown (fun _ _ h=>h)) (fun k hk h=>HNV.out k hk h);have HOW2:=hid hown2
       have HNV2:Hid (∀k,(Value.slice ao U.length cap).ownBlock=some k->¬P' k):=hid (fun k hk hp=>by
        rcases HPP.out k hp with h|h
        ·exact HNV.out k hk h
        ·have:=(hown.lt k hk).2
         have:=HSW.out;omega)
       have HP2:Hid (∀k,P' k->P0 k∨w1.heap.size<=k):=hid (fun k hk=>by
        rcases HPP.out k hk with h|h
        ·exact HP.out k h
        ·exact .inr (by omega))
       have HU2:Hid (U=(q7 tk (rs.take (j+1))).map Rec.raw):=hid (by
        rw[HTK.out,HU.out];unfold q7;rw[List.filter_append,List.map_append];simp[HTKR.out])
       have HF2:Hid (zg tk step st0 (rs.take (j+1))=.ok st'):=hid (by
        rw[HTK.out,yr,HFW.out]
        simp[zg,HTKR.out,hst])
       have hr4':=rc4 HRB2.out;have hsz9:=HSZ.out;have hw12:w1.heap.size<=w2.heap.size:=by omega
       clear hr' hp' hu hst hr0 hr1 hr2 hr3 hr4 hn0 hown hown2;go_wp2_with fail;have hj:=HJ.out
       go_roundg (gk-1)
       case measure=>omega
       case rel=>exact⟨j+1,at'+r.raw.length,st',P',U,by omega,by simp,by simp,HAT2,HU2,HF2,HR2',HP2,HOW2.out,HNV2,HUP2,hw12,HO2⟩
    ·have hjn:j=rs.length:=by have:=HJ.out;omega
     have HF2:Hid (zg tk step st0 rs=.ok st):=hid (by rw[HF.out,hjn,List.drop_length];rfl);have HUU:Hid (U=(q7 tk rs).map Rec.raw):=hid (by rw[HU.out,hjn,List.take_length]);have HFL:Hid (U.flatten=munk tk rs):=hid (by rw[HUU.out];unfold munk;rw[List.flatMap_def])
     have hfl:U.flatten.length<=s.size:=by
      rw[HFL.out];have:=Xy tk rs;rw[HRAW.out]at this
      simpa using this
     have hU9:U.length<=s.size:=by
      rw[HUU.out,List.length_map];have:=List.length_filter_le (fun r=>!tk r) rs;unfold q7;omega
     have hsz9:=HSZ.out
     have hcap:U.length<=cap:=by
      rcases Nat.eq_zero_or_pos U.length with h|h
      ·omega
      ·obtain⟨_,cg,hv,_,_,h9,_⟩:=yj hown h
       simp only[Value.slice.injEq]at hv
       omega
     have HST:=hid (J5 hown);clear hown hjn;go_wp2_with fail;refine(z1z ao cap U _ HST.out hcap (by omega) (by omega)).mono ?_;rintro e w2 ⟨rfl,hb2⟩;have HB2:=hid hb2;clear hb2;go_wp2_with fail
     go_ret2
     refine⟨HUP.out.trans (Upd.of_new HB2.out),?_⟩;rw[HM.out,HF2.out];refine⟨by rw[HFL.out];rfl,P,R.kept _ _ _ _ HR.out (Upd.of_new HB2.out),fun k hk=>?_⟩
     rcases HP.out k hk with h|h
     ·exact .inl h
     ·exact .inr (by omega)
def UChk (l:List UInt8)(w:World)(e:Ending)(w':World):Prop :=
 if ubad l<0 then e=.returned .nilIface/\w=w' else ∃v,e=.returned v/\yq w (ubad l) 5 v w'
theorem uchk_ok {l:List UInt8}(h:ubad l<0)(w:World):UChk l w (.returned .nilIface) w:=by
 unfold UChk;rw[if_pos h];exact⟨rfl,rfl⟩
theorem ze5 {l:List UInt8}{b:Int}(hb:b=ubad l)(h:¬b<0){w w':World}{v:Value}(hE:yq w b 5 v w'):UChk l w (.returned v) w':=by
 subst hb;unfold UChk;rw[if_neg h];exact⟨v,rfl,hE⟩
theorem z5d (s:ByteArray)(w:World)(hs:s.size<=4611686018427387904) :
  Calls Tryz.prog 135 #[.string s] w (UChk s.data.toList w):=by
 obtain⟨b,HB⟩:∃b,Hid (b=ubad s.data.toList):=⟨_,hid rfl⟩
 by_cases hb:b<0
 ·have HF:=hid (uchk_ok (by rw[<-HB.out];exact hb) w)
  go_enter Tryz.func135,Tryz.ntmps135;go_wp2_with fail;refine(za1 s w hs).mono ?_;rintro e w' ⟨rfl,rfl⟩;rw[<-HB.out]
  go_wp2
  go_ret;exact HF.out
 ·have HF:Hid (¬b<0):=hid hb
  go_enter Tryz.func135,Tryz.ntmps135;go_wp2_with fail;refine(za1 s w hs).mono ?_;rintro e w' ⟨rfl,rfl⟩;rw[<-HB.out];go_wp2_with fail;refine(qe _ _ _ w).mono ?_;rintro e w' ⟨rfl,rfl⟩
  go_wp2
  go_ret;exact ze5 HB.out (by have:=HF.out;omega) (jh (Below.refl _ _))
theorem ibeq (a k:Nat):((a:Int) == (k:Int))=decide (a=k):=by
 by_cases h:a=k
 ·subst h;simp
 ·rw[decide_eq_false h,beq_eq_false_iff_ne];omega
theorem kt {w:World}{n:Int}{v:Value}{c:Nat}(h:EC w v c):EC (w.alloc (.cells #[.int .i64 n,v] 141)) (.iface 139 (.pointer (some ⟨w.heap.size,0,none⟩))) c:=by
 obtain⟨ws,h⟩:=h;exact⟨(false,n)::ws,w.heap.size,v,rfl,by simp,heap_alloc_new w _,jf ((Below.refl _ _).alloc (Nat.le_refl _) _) h⟩
theorem z2e {l:List UInt8}(h:xb l=false):¬ubad l<0:=by
 unfold xb at h
 simpa using h
theorem z55 {l:List UInt8}(h:xb l=true):ubad l<0:=by
 unfold xb at h
 simpa using h
theorem j3 {w:World}{g:Nat}(hg:w.heap.size=g)(a b:Obj):((w.alloc a).alloc b).heap[g+1]?=some b:=by
 have:=heap_alloc_new (w.alloc a) b
 rwa [show(w.alloc a).heap.size=g+1 by rw[<-hg];exact Array.size_push ..]at this
theorem zi {P:Program} {fn:Func} {R:Ending->World->Prop} {a:Act} {w:World} {p u:Tmp} {ty:TypeId} {g:Nat} {cs:Array Value}
  (h:fn.results=#[.cell p ty,.tmp u]) (hp:a.tmps.getD p undef=.pointer (some ⟨g,0,none⟩)) (hl:(loadVar ty ⟨g,0,none⟩).run P w=.ok (.agg cs) w) (hdf:a.defers=[])
  (hR:R (.returned (.tuple #[.agg cs,a.tmps.getD u undef])) w):bodyPost P fn R .ret a w:=by
 refine bodyPost_ret ?_ hdf hR;have hp':a.tmps[p]?.getD undef=.pointer (some ⟨g,0,none⟩):=by simpa using hp
 have hr:(asAddr (a.tmps[p]?.getD undef)).run P w=.ok ⟨g,0,none⟩ w:=by rw[hp'];rfl
 simp[results,h,Sem.run_bind,Result.andThen,hr,hl]
def Q9 (b o:Nat)(X:ByteArray)(w:World)(e:Ending)(w':World):Prop :=
 if xb X.data.toList then e=.returned .nilIface/\w'=w.setCell ⟨b,o,none⟩ (.string X)else ∃y,e=.returned y/\EC w' y 5/\Below w.heap.size w w'
theorem text_to {cs:Array Value}{T:TypeId}(b o:Nat)(v:Value)(X:ByteArray)(w:World)(hX:X.size<=1000000)(hrow:Hid (w.heap[b]?=some (.cells cs T (0,0))))(hcs:cs[o]?=some v) :
  Calls Tryz.prog 100 #[.pointer (some ⟨b,o,none⟩),.string X] w (Q9 b o X w):=by
 have hc:w.cell? ⟨b,o,none⟩=some v:=za hrow.out hcs;have hfz:w.frozen? ⟨b,o,none⟩=false:=z7 hrow.out o;have HCK:=hid (z5d X w (by omega))
 cases hv:xb X.data.toList with
 | true =>
  have HV:=hid (z55 hv);have HB:=hid hv;clear hv;go_enter Tryz.func100,Tryz.ntmps100;go_wp2_with fail;refine HCK.out.mono ?_;intro e w2 hp;unfold UChk at hp
  rw[if_pos HV.out]at hp;obtain⟨rfl,rfl⟩:=hp;go_wp2_with fail;go_ret;unfold Q9;rw[HB.out];exact⟨rfl,rfl⟩
 | false =>
  have HV:=hid (z2e hv);have HB:=hid hv;clear hv hc hfz;go_enter Tryz.func100,Tryz.ntmps100;go_wp2_with fail;refine HCK.out.mono ?_;intro e w2 hp;unfold UChk at hp
  rw[if_neg (fun h=>by have:=HV.out;omega)]at hp;obtain⟨y,rfl,hE⟩:=hp;have hec:EC w2 y 5:=⟨_,hE.isErr⟩
  obtain⟨T',z,rfl⟩:=hec.iface;have HEC:=hid hec;have HB2:=hid hE.2;clear hE hec;go_wp2_with fail;go_ret;unfold Q9;rw[HB.out];exact⟨_,rfl,HEC.out,HB2.out⟩
theorem Zw {w:World}{g:Nat}(hg:w.heap.size=g)(a b c:Obj):(((w.alloc a).alloc b).alloc c).heap[g]?=some a/\(((w.alloc a).alloc b).alloc c).heap[g+1]?=some b/\(((w.alloc a).alloc b).alloc c).heap[g+2]?=some c:=by
 have s1:(w.alloc a).heap.size=g+1:=by rw[<-hg];exact Array.size_push ..
 have s2:((w.alloc a).alloc b).heap.size=g+2:=by rw[show g+2=g+1+1 from rfl,<-s1];exact Array.size_push ..
 have h1:(w.alloc a).heap[g]?=some a:=by rw[<-hg];exact heap_alloc_new w a
 have h2:((w.alloc a).alloc b).heap[g+1]?=some b:=j3 hg a b;refine⟨?_,?_,?_⟩
 ·exact(Below.heap_alloc _ _ _ (by omega)).trans ((Below.heap_alloc _ _ _ (by omega)).trans h1)
 ·exact(Below.heap_alloc _ _ _ (by omega)).trans h2
 ·exact j3 s1 b c
end Go.Proofs.YtmlghmjjlpioeaaGreatDoor
