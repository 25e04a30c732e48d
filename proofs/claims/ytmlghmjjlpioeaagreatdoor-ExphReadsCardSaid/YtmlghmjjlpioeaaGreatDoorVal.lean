/-
  Attributes: the tree, how it is read, and how it lies in memory.
-/
import Derived.Test.YtmlghmjjlpioeaaGreatDoorOrd
import Derived.Test.YtmlghmjjlpioeaaGreatDoorUtf2
import Derived.Test.YtmlghmjjlpioeaaGreatDoorWireRA
namespace Go.Proofs.YtmlghmjjlpioeaaGreatDoor
open Go.RowKit
open Lib (hid)
mutual
inductive Val where
 | mk (kind:Int) (s:List UInt8) (b:Bool) (n:Nat) (l:List Val) (m:List KV) (inner unk:List UInt8)
inductive KV where
 | mk (key:List UInt8) (has:Bool) (v:Val) (unk:List UInt8)
end
def Val.zero:Val := .mk 0 [] false 0 [] [] [] []
def vtk (r:Rec):Bool:=decide ((r.num=1∨r.num=5∨r.num=6∨r.num=7)/\r.ty=2∨(r.num=2∨r.num=3)/\r.ty=0∨r.num=4/\r.ty=1)
def itk (r:Rec):Bool:=decide (r.num=1/\r.ty=2)
def ktk (r:Rec):Bool:=decide ((r.num=1∨r.num=2)/\r.ty=2)
structure One where
 r:Rec
 ps:List (List UInt8)
def one0:One:=⟨⟨0,0,0,[],[]⟩,[]⟩
def oput (o:One)(r:Rec):One:=⟨r,if r.num=o.r.num then o.ps++[r.s]else [r.s]⟩
def yw (o:One)(r:Rec):Except Nat One:=if r.num=1/\xb r.s=false then .error 5 else .ok (oput o r)
def yc {α:Type}(rd:List UInt8->Int->Except Nat α)(d:Int)(xs:List α)(r:Rec):Except Nat (List α):=match rd r.s d with
 | .error c => .error c
 | .ok x => .ok (xs++[x])
def yf {α:Type}(rd:List UInt8->Int->Except Nat α)(l:List UInt8)(d:Int):Except Nat (List α × List UInt8):=zq itk (yc rd (d-1)) [] l d
def yl (st:List UInt8 × List (List UInt8))(r:Rec):Except Nat (List UInt8 × List (List UInt8)) :=
 if r.num=1 then(if xb r.s then .ok (r.s,st.2)else .error 5)else .ok (st.1,st.2++[r.s])
def zz (vr:List UInt8->Int->Except Nat Val)(kr:List UInt8->Int->Except Nat KV)(o:One)(d:Int)(unk:List UInt8):Except Nat Val :=
 if o.r.num=1∨o.r.num=7 then .ok (.mk o.r.num o.r.s false 0 [] [] [] unk)
 else if o.r.num=2 then .ok (.mk o.r.num [] (!decide (o.r.n=0)) 0 [] [] [] unk)
 else if o.r.num=3∨o.r.num=4 then .ok (.mk o.r.num [] false o.r.n [] [] [] unk)
 else if o.r.num=5 then match yf vr o.ps.flatten d with
  | .error c => .error c
  | .ok (xs,i) => .ok (.mk o.r.num [] false 0 xs [] i unk)
 else if o.r.num=6 then match yf kr o.ps.flatten d with
  | .error c => .error c
  | .ok (xs,i) => .ok (.mk o.r.num [] false 0 [] xs i unk)
 else .ok (.mk o.r.num [] false 0 [] [] [] unk)
mutual
def zn:Nat->List UInt8->Int->Except Nat Val
 | 0,_,_ => .error 1
 | f+1,l,d=>match zq vtk yw one0 l d with
  | .error c => .error c
  | .ok (o,unk)=>zz (zn f) (zm f) o (d-1) unk
def zm:Nat->List UInt8->Int->Except Nat KV
 | 0,_,_ => .error 1
 | f+1,l,d=>match zq ktk yl ([],[]) l d with
  | .error c => .error c
  | .ok (st,unk)=>if st.2=[]then .ok (.mk st.1 false .zero unk)else match zn f st.2.flatten (d-1)with
   | .error c => .error c
   | .ok v => .ok (.mk st.1 true v unk)
end
def j6 (w:World)(g off:Nat)(cs:List Value):Prop:=∀i (h:i<cs.length),w.cell? ⟨g,off+i,none⟩=some cs[i]
theorem j6.upd {S:Nat->Prop}{w w':World}{g off:Nat}{cs:List Value}(h:j6 w g off cs)(hu:Upd S w w')(hg:g<w.heap.size)(hs:¬S g):j6 w' g off cs:=fun i hi =>
 (hu.cell (a:=⟨g,off+i,none⟩) hg hs).trans (h i hi)
mutual
def VRel (w:World)(P:Nat->Prop):Val->List Value->Prop
 | .mk k s b n l m i u,c=>∃lo lc mo mc,c=[.int .i64 k,strV s,.bool b,.int .u64 n,.slice lo l.length lc,.slice mo m.length mc,strV i,strV u]/\yv w P l lo 0/\y7 w P m mo 0
def KRel (w:World)(P:Nat->Prop):KV->List Value->Prop
 | .mk key has v u,c=>∃cs,VRel w P v cs/\c=[strV key,.bool has]++cs++[strV u]
def yv (w:World)(P:Nat->Prop):List Val->Option Addr->Nat->Prop
 | [],_,_=>True
 | x::xs,lo,j=>(∃g off cs,lo=some ⟨g,off,none⟩/\P g/\g<w.heap.size/\j6 w g (off+8*j) cs/\VRel w P x cs)/\yv w P xs lo (j+1)
def y7 (w:World)(P:Nat->Prop):List KV->Option Addr->Nat->Prop
 | [],_,_=>True
 | x::xs,lo,j=>(∃g off cs,lo=some ⟨g,off,none⟩/\P g/\g<w.heap.size/\j6 w g (off+11*j) cs/\KRel w P x cs)/\y7 w P xs lo (j+1)
end
mutual
theorem VRel.upd {S:Nat->Prop}{w w':World}{P Q:Nat->Prop}(hu:Upd S w w')(hs:∀k,P k->¬S k)(hq:∀k,P k->Q k):∀(x:Val) (c:List Value),VRel w P x c->VRel w' Q x c
 | .mk k s b n l m i u,c,h=>by
  rw[VRel]at h ⊢;obtain⟨lo,lc,mo,mc,hc,h1,h2⟩:=h;exact⟨lo,lc,mo,mc,hc,yv.upd hu hs hq l lo 0 h1,y7.upd hu hs hq m mo 0 h2⟩
theorem KRel.upd {S:Nat->Prop}{w w':World}{P Q:Nat->Prop}(hu:Upd S w w')(hs:∀k,P k->¬S k)(hq:∀k,P k->Q k):∀(x:KV) (c:List Value),KRel w P x c->KRel w' Q x c
 | .mk key has v u,c,h=>by
  rw[KRel]at h ⊢;obtain⟨cs,h1,hc⟩:=h;exact⟨cs,VRel.upd hu hs hq v cs h1,hc⟩
theorem yv.upd {S:Nat->Prop}{w w':World}{P Q:Nat->Prop}(hu:Upd S w w')(hs:∀k,P k->¬S k)(hq:∀k,P k->Q k):∀(xs:List Val) (lo:Option Addr) (j:Nat),yv w P xs lo j->yv w' Q xs lo j
 | [],lo,j,_=>by rw[yv];trivial
 | x::xs,lo,j,h=>by
  rw[yv]at h ⊢;obtain⟨⟨g,off,cs,h1,h2,h3,h4,h5⟩,h6⟩:=h;exact⟨⟨g,off,cs,h1,hq g h2,Nat.lt_of_lt_of_le h3 hu.size,h4.upd hu h3 (hs g h2),VRel.upd hu hs hq x cs h5⟩,yv.upd hu hs hq xs lo (j+1) h6⟩
theorem y7.upd {S:Nat->Prop}{w w':World}{P Q:Nat->Prop}(hu:Upd S w w')(hs:∀k,P k->¬S k)(hq:∀k,P k->Q k):∀(xs:List KV) (lo:Option Addr) (j:Nat),y7 w P xs lo j->y7 w' Q xs lo j
 | [],lo,j,_=>by rw[y7];trivial
 | x::xs,lo,j,h=>by
  rw[y7]at h ⊢;obtain⟨⟨g,off,cs,h1,h2,h3,h4,h5⟩,h6⟩:=h;exact⟨⟨g,off,cs,h1,hq g h2,Nat.lt_of_lt_of_le h3 hu.size,h4.upd hu h3 (hs g h2),KRel.upd hu hs hq x cs h5⟩,y7.upd hu hs hq xs lo (j+1) h6⟩
end
theorem VRel.len {w:World}{P:Nat->Prop}:∀{x:Val} {c:List Value},VRel w P x c->c.length=8
 | .mk k s b n l m i u,c,h=>by
  rw[VRel]at h;obtain⟨lo,lc,mo,mc,rfl,_⟩:=h
  rfl
theorem KRel.len {w:World}{P:Nat->Prop}:∀{x:KV} {c:List Value},KRel w P x c->c.length=11
 | .mk key has v u,c,h=>by
  rw[KRel]at h;obtain⟨cs,h1,rfl⟩:=h
  simp[h1.len]
theorem q5 {d:Int}{r:Rec}(h:zt d r):r.s.length+1<=r.raw.length:=by
 have h1:=h [];rw[List.append_nil]at h1;have h2:=k7 h1;unfold wnx at h1
 cases hh:whd r.raw with
 | error c=>rw[hh]at h1;cases h1
 | ok x =>
  obtain⟨num,ty,j⟩:=x;have hb:=yo hh;rw[hh]at h1;dsimp only at h1
  split at h1
  ·cases h1
  ·split at h1
   ·cases hg:zk (r.raw.drop j) [num] d with
    | error c=>rw[hg]at h1;cases h1
    | ok k =>
     rw[hg]at h1
     simp only[Except.ok.injEq,Prod.mk.injEq]at h1
     obtain⟨h1,h3⟩:=h1;rw[<-h1]at h2 ⊢;dsimp only[List.length_nil]at h2 ⊢;omega
   ·cases hbd:wbd (r.raw.drop j) ty with
    | error c=>rw[hbd]at h1;cases h1
    | ok y =>
     obtain⟨n,s,m⟩:=y;rw[hbd]at h1
     simp only[Except.ok.injEq,Prod.mk.injEq]at h1
     obtain⟨h1,h3⟩:=h1;have hb2:=j1 hbd;have e:r.s=s:=by rw[<-h1]
     rw[e];omega
theorem Qr {d:Int}:∀(rs:List Rec) {o o':One},(∀r∈rs,zt d r)->zg vtk yw o rs=.ok o'->(o'=o∨o'.ps.flatten.length+1<=o.ps.flatten.length+(rs.flatMap Rec.raw).length)/\o'.ps.length<=o.ps.length+(rs.flatMap Rec.raw).length/\(o'.r=o.r∨o'.r∈rs)
 | [],o,o',_,h=>by
  simp only[zg,Except.ok.injEq]at h
  subst h;exact⟨.inl rfl,by omega,.inl rfl⟩
 | r :: rs,o,o',hr,h=>by
  rw[zg]at h;rw[List.flatMap_cons,List.length_append];have hr0:=hr r (List.mem_cons_self ..);have hrs:=fun z hz=>hr z (List.mem_cons_of_mem _ hz)
  have h1:=q5 hr0
  split at h
  ·unfold yw at h
   split at h
   ·rename_i heq
    split at heq
    ·cases h
    ·cases heq
   ·rename_i st' heq
    split at heq
    ·cases heq
    ·simp only[Except.ok.injEq]at heq
     subst heq;have ih:=Qr rs hrs h
     have hp:(oput o r).ps.flatten.length<=o.ps.flatten.length+r.s.length/\(oput o r).ps.length<=o.ps.length+1:=by
      unfold oput;dsimp only
      split
      ·rw[List.flatten_append,List.length_append,List.length_append];simp
      ·simp
     refine⟨.inr ?_,by omega,?_⟩
     ·rcases ih.1 with h|h
      ·rw[h];omega
      ·omega
     ·rcases ih.2.2 with h|h
      ·exact .inr (by rw[h];exact List.mem_cons_self ..)
      ·exact .inr (List.mem_cons_of_mem _ h)
  ·have ih:=Qr rs hrs h
   refine⟨ih.1.imp id (fun h=>by omega),by omega,ih.2.2.imp id (fun h=>List.mem_cons_of_mem _ h)⟩
theorem Xl {d:Int}:∀(rs:List Rec) {o o':List UInt8 × List (List UInt8)},(∀r∈rs,zt d r)->zg ktk yl o rs=.ok o'->(o'.2=o.2∨o'.2.flatten.length+1<=o.2.flatten.length+(rs.flatMap Rec.raw).length)/\o'.2.length<=o.2.length+(rs.flatMap Rec.raw).length
 | [],o,o',_,h=>by
  simp only[zg,Except.ok.injEq]at h
  subst h;exact⟨.inl rfl,by omega⟩
 | r :: rs,o,o',hr,h=>by
  rw[zg]at h;rw[List.flatMap_cons,List.length_append];have hr0:=hr r (List.mem_cons_self ..);have hrs:=fun z hz=>hr z (List.mem_cons_of_mem _ hz)
  have h1:=q5 hr0
  split at h
  ·unfold yl at h
   split at h
   ·rename_i heq
    cases h
   ·rename_i st' heq
    have ih:=Xl rs hrs h
    split at heq
    ·split at heq
     ·simp only[Except.ok.injEq]at heq
      subst heq;dsimp only at ih;exact⟨ih.1.imp id (fun h=>by omega),by omega⟩
     ·cases heq
    ·simp only[Except.ok.injEq]at heq
     subst heq;dsimp only at ih;rw[List.flatten_append,List.length_append,List.length_append]at ih
     simp only[List.flatten_cons,List.flatten_nil,List.append_nil,List.length_cons,List.length_nil]at ih
     refine⟨.inr ?_,by omega⟩
     rcases ih.1 with h|h
     ·rw[h,List.flatten_append,List.length_append];simp;omega
     ·omega
  ·have ih:=Xl rs hrs h
   exact⟨ih.1.imp id (fun h=>by omega),by omega⟩
mutual
theorem VRel.lt {w:World}{P:Nat->Prop}:∀(x:Val) (c:List Value),VRel w P x c->VRel w (fun k=>P k/\k<w.heap.size) x c
 | .mk k s b n l m i u,c,h=>by
  rw[VRel]at h ⊢;obtain⟨lo,lc,mo,mc,hc,h1,h2⟩:=h;exact⟨lo,lc,mo,mc,hc,yv.lt l lo 0 h1,y7.lt m mo 0 h2⟩
theorem KRel.lt {w:World}{P:Nat->Prop}:∀(x:KV) (c:List Value),KRel w P x c->KRel w (fun k=>P k/\k<w.heap.size) x c
 | .mk key has v u,c,h=>by
  rw[KRel]at h ⊢;obtain⟨cs,h1,hc⟩:=h;exact⟨cs,VRel.lt v cs h1,hc⟩
theorem yv.lt {w:World}{P:Nat->Prop}:∀(xs:List Val) (lo:Option Addr) (j:Nat),yv w P xs lo j->yv w (fun k=>P k/\k<w.heap.size) xs lo j
 | [],lo,j,_=>by rw[yv];trivial
 | x::xs,lo,j,h=>by
  rw[yv]at h ⊢;obtain⟨⟨g,off,cs,h1,h2,h3,h4,h5⟩,h6⟩:=h;exact⟨⟨g,off,cs,h1,⟨h2,h3⟩,h3,h4,VRel.lt x cs h5⟩,yv.lt xs lo (j+1) h6⟩
theorem y7.lt {w:World}{P:Nat->Prop}:∀(xs:List KV) (lo:Option Addr) (j:Nat),y7 w P xs lo j->y7 w (fun k=>P k/\k<w.heap.size) xs lo j
 | [],lo,j,_=>by rw[y7];trivial
 | x::xs,lo,j,h=>by
  rw[y7]at h ⊢;obtain⟨⟨g,off,cs,h1,h2,h3,h4,h5⟩,h6⟩:=h;exact⟨⟨g,off,cs,h1,⟨h2,h3⟩,h3,h4,KRel.lt x cs h5⟩,y7.lt xs lo (j+1) h6⟩
end
theorem z4i {w:World}{P:Nat->Prop}{g:Nat}(hg:P g)(hlt:g<w.heap.size):∀(ys:List Val) (ds:List (List Value)) (j:Nat),ys.length=ds.length->(∀i (h1:i<ys.length) (h2:i<ds.length),VRel w P ys[i] ds[i])->(∀i (h:i<ds.flatten.length),w.cell? ⟨g,8*j+i,none⟩=some ds.flatten[i])->yv w P ys (some ⟨g,0,none⟩) j
 | [],_,_,_,_,_=>by rw[yv];trivial
 | y::ys,[],_,h,_,_=>by simp at h
 | y::ys,c::ds,j,h,hr,hc=>by
  have h0:=hr 0 (by simp) (by simp)
  simp only[List.getElem_cons_zero]at h0
  have hcl:=h0.len;rw[yv];refine⟨⟨g,0,c,rfl,hg,hlt,fun i hi=>?_,h0⟩,z4i hg hlt ys ds (j+1) (by simpa using h) (fun i h1 h2=>by have:=hr (i+1) (by simpa using h1) (by simpa using h2);simpa using this) (fun i hi=>?_)⟩
  ·have:=hc i (by rw[List.flatten_cons,List.length_append];omega)
   rw[Nat.zero_add,this]
   simp only[List.flatten_cons]
   rw[List.getElem_append_left hi]
  ·have:=hc (8+i) (by rw[List.flatten_cons,List.length_append];omega)
   rw[show 8*(j+1)+i=8*j+(8+i)by omega,this]
   simp only[List.flatten_cons]
   rw[List.getElem_append_right (by omega)]
   simp only[hcl,Nat.add_sub_cancel_left]
theorem z7l {w:World}{base:Nat}{T:TypeId}{lo:Option Addr}{cap:Nat}{xs:List Val}{css:List (List Value)}{P:Nat->Prop}(ho:w.ownsRow base T 8 (.slice lo xs.length cap) xs.length css.flatten)(hl:css.length=xs.length)(hr:∀j (h1:j<xs.length) (h2:j<css.length),VRel w P xs[j] css[j])(hP:∀k,(Value.slice lo xs.length cap).ownBlock=some k->P k):yv w P xs lo 0:=by
 by_cases h0:xs=[]
 ·subst h0;rw[yv];trivial
 ·have hp:0<xs.length:=List.length_pos_iff.2 h0
  obtain⟨g,cg,hv,hb,hg,_,_⟩:=yj ho hp
  simp only[Value.slice.injEq]at hv
  obtain⟨rfl,_,rfl⟩:=hv
  have hfl:css.flatten.length=8*xs.length:=by
   have:∀c∈css,c.length=8:=fun c hc=>by
    obtain⟨i,hi,rfl⟩:=List.getElem_of_mem hc;exact(hr i (by omega) hi).len
   have aux:∀(l:List (List Value)),(∀c∈l,c.length=8)->l.flatten.length=8*l.length:=fun l=>by
    induction l with
    | nil=>intro _;rfl
    | cons c l ih=>intro h;rw[List.flatten_cons,List.length_append,ih (fun x hx=>h x (List.mem_cons_of_mem _ hx)),h c (List.mem_cons_self ..),List.length_cons];omega
   rw[aux css this,hl]
  refine z4i (hP g rfl) hg xs css 0 hl.symm hr (fun i hi=>?_);rw[Nat.mul_zero,Nat.zero_add,ho.cellAt i (by omega),List.getElem?_eq_getElem hi]
theorem z4o {w:World}{P:Nat->Prop}{g:Nat}(hg:P g)(hlt:g<w.heap.size):∀(ys:List KV) (ds:List (List Value)) (j:Nat),ys.length=ds.length->(∀i (h1:i<ys.length) (h2:i<ds.length),KRel w P ys[i] ds[i])->(∀i (h:i<ds.flatten.length),w.cell? ⟨g,11*j+i,none⟩=some ds.flatten[i])->y7 w P ys (some ⟨g,0,none⟩) j
 | [],_,_,_,_,_=>by rw[y7];trivial
 | y::ys,[],_,h,_,_=>by simp at h
 | y::ys,c::ds,j,h,hr,hc=>by
  have h0:=hr 0 (by simp) (by simp)
  simp only[List.getElem_cons_zero]at h0
  have hcl:=h0.len;rw[y7];refine⟨⟨g,0,c,rfl,hg,hlt,fun i hi=>?_,h0⟩,z4o hg hlt ys ds (j+1) (by simpa using h) (fun i h1 h2=>by have:=hr (i+1) (by simpa using h1) (by simpa using h2);simpa using this) (fun i hi=>?_)⟩
  ·have:=hc i (by rw[List.flatten_cons,List.length_append];omega)
   rw[Nat.zero_add,this]
   simp only[List.flatten_cons]
   rw[List.getElem_append_left hi]
  ·have:=hc (11+i) (by rw[List.flatten_cons,List.length_append];omega)
   rw[show 11*(j+1)+i=11*j+(11+i)by omega,this]
   simp only[List.flatten_cons]
   rw[List.getElem_append_right (by omega)]
   simp only[hcl,Nat.add_sub_cancel_left]
theorem Yy {w:World}{base:Nat}{T:TypeId}{lo:Option Addr}{cap:Nat}{xs:List KV}{css:List (List Value)}{P:Nat->Prop}(ho:w.ownsRow base T 11 (.slice lo xs.length cap) xs.length css.flatten)(hl:css.length=xs.length)(hr:∀j (h1:j<xs.length) (h2:j<css.length),KRel w P xs[j] css[j])(hP:∀k,(Value.slice lo xs.length cap).ownBlock=some k->P k):y7 w P xs lo 0:=by
 by_cases h0:xs=[]
 ·subst h0;rw[y7];trivial
 ·have hp:0<xs.length:=List.length_pos_iff.2 h0
  obtain⟨g,cg,hv,hb,hg,_,_⟩:=yj ho hp
  simp only[Value.slice.injEq]at hv
  obtain⟨rfl,_,rfl⟩:=hv
  have hfl:css.flatten.length=11*xs.length:=by
   have:∀c∈css,c.length=11:=fun c hc=>by
    obtain⟨i,hi,rfl⟩:=List.getElem_of_mem hc;exact(hr i (by omega) hi).len
   have aux:∀(l:List (List Value)),(∀c∈l,c.length=11)->l.flatten.length=11*l.length:=fun l=>by
    induction l with
    | nil=>intro _;rfl
    | cons c l ih=>intro h;rw[List.flatten_cons,List.length_append,ih (fun x hx=>h x (List.mem_cons_of_mem _ hx)),h c (List.mem_cons_self ..),List.length_cons];omega
   rw[aux css this,hl]
  refine z4o (hP g rfl) hg xs css 0 hl.symm hr (fun i hi=>?_);rw[Nat.mul_zero,Nat.zero_add,ho.cellAt i (by omega),List.getElem?_eq_getElem hi]
def rB (num:Nat)(s:List UInt8):Rec:=⟨num,2,0,s,vput (8*num+2)++(vput s.length++s)⟩
def rN (num n:Nat):Rec:=⟨num,0,n,[],vput (8*num+0)++vput n⟩
theorem Z8 {num:Nat}{s:List UInt8}(h1:1<=num)(h2:num<=536870911)(hs:s.length<2^64)(d:Int):zt d (rB num s):=Xj (z4z h1 h2 hs) d
theorem z0z {num n:Nat}(h1:1<=num)(h2:num<=536870911)(hn:n<2^64)(d:Int):zt d (rN num n):=Xj (z8n h1 h2 hn) d
def j0 (c:Nat):Prop:=Qj c∨c=5
theorem J4 {σ:Type}{tk:Rec->Bool}{step:σ->Rec->Except Nat σ}(hs:∀st r c,step st r=.error c->j0 c):∀(rs:List Rec) (st:σ) (c:Nat),zg tk step st rs=.error c->j0 c
 | [],st,c,h=>by cases h
 | r::rs,st,c,h=>by
  rw[zg]at h
  split at h
  ·cases hr:step st r with
   | error c' =>
    rw[hr]at h
    simp only[Except.error.injEq]at h
    subst h;exact hs _ _ _ hr
   | ok st' =>
    rw[hr]at h;exact J4 hs rs st' c h
  ·exact J4 hs rs st c h
theorem Zn {σ:Type}{tk:Rec->Bool}{step:σ->Rec->Except Nat σ}{st:σ}{l:List UInt8}{d:Int}{c:Nat}(hs:∀st r c,step st r=.error c->j0 c)(h:zq tk step st l d=.error c):j0 c:=by
 unfold zq at h
 split at h
 ·simp only[Except.error.injEq]at h
  exact .inl (.inr (.inr (.inr h.symm)))
 ·cases hw:wall l d with
  | error c' =>
   rw[hw]at h
   simp only[Except.error.injEq]at h
   subst h;exact .inl (z7d _ hw)
  | ok rs =>
   rw[hw]at h;dsimp only at h
   cases hm:zg tk step st rs with
   | error c' =>
    rw[hm]at h
    simp only[Except.error.injEq]at h
    subst h;exact J4 hs rs _ _ hm
   | ok x=>rw[hm]at h;cases h
theorem zae (o:One)(r:Rec)(c:Nat)(h:yw o r=.error c):j0 c:=by
 unfold yw at h
 split at h
 ·simp only[Except.error.injEq]at h
  exact .inr h.symm
 ·cases h
theorem zaw (st:List UInt8 × List (List UInt8))(r:Rec)(c:Nat)(h:yl st r=.error c):j0 c:=by
 unfold yl at h
 split at h
 ·split at h
  ·cases h
  ·simp only[Except.error.injEq]at h
   exact .inr h.symm
 ·cases h
theorem z3i {α:Type}{rd:List UInt8->Int->Except Nat α}{l:List UInt8}{d:Int}{c:Nat}(hr:∀l d c,rd l d=.error c->j0 c)(h:yf rd l d=.error c):j0 c:=by
 refine Zn (fun st r c hs=>?_) h;unfold yc at hs
 cases hx:rd r.s (d-1)with
 | error c' =>
  rw[hx]at hs
  simp only[Except.error.injEq]at hs
  subst hs;exact hr _ _ _ hx
 | ok x=>rw[hx]at hs;cases hs
theorem z8b {vr:List UInt8->Int->Except Nat Val}{kr:List UInt8->Int->Except Nat KV}{o:One}{d:Int}{u:List UInt8}{c:Nat}(hv:∀l d c,vr l d=.error c->j0 c)(hk:∀l d c,kr l d=.error c->j0 c)(h:zz vr kr o d u=.error c):j0 c:=by
 unfold zz at h
 split at h
 ·cases h
 ·split at h
  ·cases h
  ·split at h
   ·cases h
   ·split at h
    ·cases hl:yf vr o.ps.flatten d with
     | error c' =>
      rw[hl]at h
      simp only[Except.error.injEq]at h
      subst h;exact z3i hv hl
     | ok x=>rw[hl]at h;cases h
    ·split at h
     ·cases hl:yf kr o.ps.flatten d with
      | error c' =>
       rw[hl]at h
       simp only[Except.error.injEq]at h
       subst h;exact z3i hk hl
      | ok x=>rw[hl]at h;cases h
     ·cases h
theorem z4f:∀(f:Nat),(∀l d c,zn f l d=.error c->j0 c)/\(∀l d c,zm f l d=.error c->j0 c)
 | 0=>⟨fun l d c h=>by rw[zn]at h;simp only[Except.error.injEq]at h;exact .inl (.inl h.symm),fun l d c h=>by rw[zm]at h;simp only[Except.error.injEq]at h;exact .inl (.inl h.symm)⟩
 | f + 1=>by
  obtain⟨ihv,ihk⟩:=z4f f;refine⟨fun l d c h=>?_,fun l d c h=>?_⟩
  ·rw[zn]at h
   cases hm:zq vtk yw one0 l d with
   | error c' =>
    rw[hm]at h
    simp only[Except.error.injEq]at h
    subst h;exact Zn zae hm
   | ok x =>
    rw[hm]at h;exact z8b ihv ihk h
  ·rw [zm]at h
   cases hm:zq ktk yl ([],[]) l d with
   | error c' =>
    rw[hm]at h
    simp only[Except.error.injEq]at h
    subst h;exact Zn zaw hm
   | ok x =>
    obtain⟨st,u⟩:=x;rw[hm]at h;dsimp only at h
    split at h
    ·cases h
    ·cases hv:zn f st.2.flatten (d-1)with
     | error c' =>
      rw[hv]at h
      simp only[Except.error.injEq]at h
      subst h;exact ihv _ _ _ hv
     | ok v=>rw[hv]at h;cases h
end Go.Proofs.YtmlghmjjlpioeaaGreatDoor
