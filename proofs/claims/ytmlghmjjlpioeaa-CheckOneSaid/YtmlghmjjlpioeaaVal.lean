/-
  Attributes: the tree, how it is read, and how it lies in memory.
-/
import Derived.Test.YtmlghmjjlpioeaaMsgMath
import Derived.Test.YtmlghmjjlpioeaaUpd
import Derived.Test.YtmlghmjjlpioeaaOrd
import Derived.Test.YtmlghmjjlpioeaaUtf2
import Derived.Test.YtmlghmjjlpioeaaKit
import Derived.Test.YtmlghmjjlpioeaaWireMath
import Derived.Test.YtmlghmjjlpioeaaWireR5
import Derived.Deep.LoopGhost
namespace Go.Proofs.Ytmlghmjjlpioeaa
open Go.RowKit
open Lib (hid)
mutual
inductive Val where
 | mk (kind:Int) (s:List UInt8) (b:Bool) (n:Nat) (l:List Val) (m:List KV) (inner unk:List UInt8)
inductive KV where
 | mk (key:List UInt8) (has:Bool) (v:Val) (unk:List UInt8)
end
def Val.zero:Val := .mk 0 [] false 0 [] [] [] []
def vtk (r:Rec):Bool:=decide ((r.num=1∨r.num=5∨r.num=6∨r.num=7)∧r.ty=2∨(r.num=2∨r.num=3)∧r.ty=0∨r.num=4∧r.ty=1)
def itk (r:Rec):Bool:=decide (r.num=1∧r.ty=2)
def ktk (r:Rec):Bool:=decide ((r.num=1∨r.num=2)∧r.ty=2)
structure One where
 r:Rec
 ps:List (List UInt8)
def one0:One:=⟨⟨0,0,0,[],[]⟩,[]⟩
def oput (o:One)(r:Rec):One:=⟨r,if r.num=o.r.num then o.ps++[r.s] else [r.s]⟩
def ostep (o:One)(r:Rec):Except Nat One:=if r.num=1∧uvalid r.s=false then .error 5 else .ok (oput o r)
def lstep {α:Type}(rd:List UInt8→Int→Except Nat α)(d:Int)(xs:List α)(r:Rec):Except Nat (List α):=match rd r.s d with
 | .error c => .error c
 | .ok x => .ok (xs++[x])
def lread {α:Type}(rd:List UInt8→Int→Except Nat α)(l:List UInt8)(d:Int):Except Nat (List α × List UInt8):=mread itk (lstep rd (d - 1)) [] l d
def kstep (st:List UInt8 × List (List UInt8))(r:Rec):Except Nat (List UInt8 × List (List UInt8)) :=
 if r.num=1 then (if uvalid r.s then .ok (r.s,st.2) else .error 5) else .ok (st.1,st.2++[r.s])
def stands (vr:List UInt8→Int→Except Nat Val)(kr:List UInt8→Int→Except Nat KV)(o:One)(d:Int)(unk:List UInt8):Except Nat Val :=
 if o.r.num=1∨o.r.num=7 then .ok (.mk o.r.num o.r.s false 0 [] [] [] unk)
 else if o.r.num=2 then .ok (.mk o.r.num [] (!decide (o.r.n=0)) 0 [] [] [] unk)
 else if o.r.num=3∨o.r.num=4 then .ok (.mk o.r.num [] false o.r.n [] [] [] unk)
 else if o.r.num=5 then match lread vr o.ps.flatten d with
  | .error c => .error c
  | .ok (xs,i) => .ok (.mk o.r.num [] false 0 xs [] i unk)
 else if o.r.num=6 then match lread kr o.ps.flatten d with
  | .error c => .error c
  | .ok (xs,i) => .ok (.mk o.r.num [] false 0 [] xs i unk)
 else .ok (.mk o.r.num [] false 0 [] [] [] unk)
mutual
def vread:Nat→List UInt8→Int→Except Nat Val
 | 0,_,_ => .error 1
 | f+1,l,d=>match mread vtk ostep one0 l d with
  | .error c => .error c
  | .ok (o,unk)=>stands (vread f) (kread f) o (d - 1) unk
def kread:Nat→List UInt8→Int→Except Nat KV
 | 0,_,_ => .error 1
 | f+1,l,d=>match mread ktk kstep ([],[]) l d with
  | .error c => .error c
  | .ok (st,unk)=>if st.2=[] then .ok (.mk st.1 false .zero unk) else match vread f st.2.flatten (d - 1) with
   | .error c => .error c
   | .ok v => .ok (.mk st.1 true v unk)
end
def Cells (w:World)(g off:Nat)(cs:List Value):Prop:=∀ i (h:i<cs.length),w.cell? ⟨g,off+i,none⟩=some cs[i]
theorem Cells.upd {S:Nat→Prop}{w w':World}{g off:Nat}{cs:List Value}(h:Cells w g off cs)(hu:Upd S w w')(hg:g<w.heap.size)(hs:¬S g):Cells w' g off cs:=fun i hi =>
 (hu.cell (a:=⟨g,off+i,none⟩) hg hs).trans (h i hi)
mutual
def VRel (w:World)(P:Nat→Prop):Val→List Value→Prop
 | .mk k s b n l m i u,c=>∃ lo lc mo mc,c=[.int .i64 k,strV s,.bool b,.int .u64 (n:Int),.slice lo l.length lc,.slice mo m.length mc,strV i,strV u]∧VRels w P l lo 0∧KRels w P m mo 0
def KRel (w:World)(P:Nat→Prop):KV→List Value→Prop
 | .mk key has v u,c=>∃ cs,VRel w P v cs∧c=[strV key,.bool has]++cs++[strV u]
def VRels (w:World)(P:Nat→Prop):List Val→Option Addr→Nat→Prop
 | [],_,_=>True
 | x::xs,lo,j=>(∃ g off cs,lo=some ⟨g,off,none⟩∧P g∧g<w.heap.size∧Cells w g (off+8 * j) cs∧VRel w P x cs)∧VRels w P xs lo (j+1)
def KRels (w:World)(P:Nat→Prop):List KV→Option Addr→Nat→Prop
 | [],_,_=>True
 | x::xs,lo,j=>(∃ g off cs,lo=some ⟨g,off,none⟩∧P g∧g<w.heap.size∧Cells w g (off+11 * j) cs∧KRel w P x cs)∧KRels w P xs lo (j+1)
end
mutual
theorem VRel.upd {S:Nat→Prop}{w w':World}{P Q:Nat→Prop}(hu:Upd S w w')(hs:∀ k,P k→¬S k)(hq:∀ k,P k→Q k):∀ (x:Val) (c:List Value),VRel w P x c→VRel w' Q x c
 | .mk k s b n l m i u,c,h=>by
  rw[VRel] at h ⊢
  obtain ⟨lo,lc,mo,mc,hc,h1,h2⟩:=h
  exact ⟨lo,lc,mo,mc,hc,VRels.upd hu hs hq l lo 0 h1,KRels.upd hu hs hq m mo 0 h2⟩
theorem KRel.upd {S:Nat→Prop}{w w':World}{P Q:Nat→Prop}(hu:Upd S w w')(hs:∀ k,P k→¬S k)(hq:∀ k,P k→Q k):∀ (x:KV) (c:List Value),KRel w P x c→KRel w' Q x c
 | .mk key has v u,c,h=>by
  rw[KRel] at h ⊢
  obtain ⟨cs,h1,hc⟩:=h
  exact ⟨cs,VRel.upd hu hs hq v cs h1,hc⟩
theorem VRels.upd {S:Nat→Prop}{w w':World}{P Q:Nat→Prop}(hu:Upd S w w')(hs:∀ k,P k→¬S k)(hq:∀ k,P k→Q k):∀ (xs:List Val) (lo:Option Addr) (j:Nat),VRels w P xs lo j→VRels w' Q xs lo j
 | [],lo,j,_=>by rw[VRels];trivial
 | x::xs,lo,j,h=>by
  rw[VRels] at h ⊢
  obtain ⟨⟨g,off,cs,h1,h2,h3,h4,h5⟩,h6⟩:=h
  exact ⟨⟨g,off,cs,h1,hq g h2,Nat.lt_of_lt_of_le h3 hu.size,h4.upd hu h3 (hs g h2),VRel.upd hu hs hq x cs h5⟩,VRels.upd hu hs hq xs lo (j+1) h6⟩
theorem KRels.upd {S:Nat→Prop}{w w':World}{P Q:Nat→Prop}(hu:Upd S w w')(hs:∀ k,P k→¬S k)(hq:∀ k,P k→Q k):∀ (xs:List KV) (lo:Option Addr) (j:Nat),KRels w P xs lo j→KRels w' Q xs lo j
 | [],lo,j,_=>by rw[KRels];trivial
 | x::xs,lo,j,h=>by
  rw[KRels] at h ⊢
  obtain ⟨⟨g,off,cs,h1,h2,h3,h4,h5⟩,h6⟩:=h
  exact ⟨⟨g,off,cs,h1,hq g h2,Nat.lt_of_lt_of_le h3 hu.size,h4.upd hu h3 (hs g h2),KRel.upd hu hs hq x cs h5⟩,KRels.upd hu hs hq xs lo (j+1) h6⟩
end
theorem VRel.len {w:World}{P:Nat→Prop}:∀ {x:Val} {c:List Value},VRel w P x c→c.length=8
 | .mk k s b n l m i u,c,h=>by
  rw[VRel] at h
  obtain ⟨lo,lc,mo,mc,rfl,_⟩:=h
  rfl
theorem KRel.len {w:World}{P:Nat→Prop}:∀ {x:KV} {c:List Value},KRel w P x c→c.length=11
 | .mk key has v u,c,h=>by
  rw[KRel] at h
  obtain ⟨cs,h1,rfl⟩:=h
  simp[h1.len]
mutual
theorem VRel.lt {w:World}{P:Nat→Prop}:∀ (x:Val) (c:List Value),VRel w P x c→VRel w (fun k=>P k∧k<w.heap.size) x c
 | .mk k s b n l m i u,c,h=>by
  rw[VRel] at h ⊢
  obtain ⟨lo,lc,mo,mc,hc,h1,h2⟩:=h
  exact ⟨lo,lc,mo,mc,hc,VRels.lt l lo 0 h1,KRels.lt m mo 0 h2⟩
theorem KRel.lt {w:World}{P:Nat→Prop}:∀ (x:KV) (c:List Value),KRel w P x c→KRel w (fun k=>P k∧k<w.heap.size) x c
 | .mk key has v u,c,h=>by
  rw[KRel] at h ⊢
  obtain ⟨cs,h1,hc⟩:=h
  exact ⟨cs,VRel.lt v cs h1,hc⟩
theorem VRels.lt {w:World}{P:Nat→Prop}:∀ (xs:List Val) (lo:Option Addr) (j:Nat),VRels w P xs lo j→VRels w (fun k=>P k∧k<w.heap.size) xs lo j
 | [],lo,j,_=>by rw[VRels];trivial
 | x::xs,lo,j,h=>by
  rw[VRels] at h ⊢
  obtain ⟨⟨g,off,cs,h1,h2,h3,h4,h5⟩,h6⟩:=h
  exact ⟨⟨g,off,cs,h1,⟨h2,h3⟩,h3,h4,VRel.lt x cs h5⟩,VRels.lt xs lo (j+1) h6⟩
theorem KRels.lt {w:World}{P:Nat→Prop}:∀ (xs:List KV) (lo:Option Addr) (j:Nat),KRels w P xs lo j→KRels w (fun k=>P k∧k<w.heap.size) xs lo j
 | [],lo,j,_=>by rw[KRels];trivial
 | x::xs,lo,j,h=>by
  rw[KRels] at h ⊢
  obtain ⟨⟨g,off,cs,h1,h2,h3,h4,h5⟩,h6⟩:=h
  exact ⟨⟨g,off,cs,h1,⟨h2,h3⟩,h3,h4,KRel.lt x cs h5⟩,KRels.lt xs lo (j+1) h6⟩
end
theorem KRel_from {w:World}{P:Nat→Prop}{g:Nat}(hg:P g)(hlt:g<w.heap.size):∀ (ys:List KV) (ds:List (List Value)) (j:Nat),ys.length=ds.length→(∀ i (h1:i<ys.length) (h2:i<ds.length),KRel w P ys[i] ds[i])→(∀ i (h:i<ds.flatten.length),w.cell? ⟨g,11 * j+i,none⟩=some ds.flatten[i])→KRels w P ys (some ⟨g,0,none⟩) j
 | [],_,_,_,_,_=>by rw[KRels];trivial
 | y::ys,[],_,h,_,_=>by simp at h
 | y::ys,c::ds,j,h,hr,hc=>by
  have h0:=hr 0 (by simp) (by simp)
  simp only[List.getElem_cons_zero] at h0
  have hcl:=h0.len
  rw[KRels]
  refine ⟨⟨g,0,c,rfl,hg,hlt,fun i hi=>?_,h0⟩,KRel_from hg hlt ys ds (j+1) (by simpa using h) (fun i h1 h2=>by have:=hr (i+1) (by simpa using h1) (by simpa using h2);simpa using this) (fun i hi=>?_)⟩
  ·have:=hc i (by rw[List.flatten_cons,List.length_append];omega)
   rw[Nat.zero_add,this]
   simp only[List.flatten_cons]
   rw[List.getElem_append_left hi]
  ·have:=hc (11+i) (by rw[List.flatten_cons,List.length_append];omega)
   rw[show 11 * (j+1)+i=11 * j+(11+i) by omega,this]
   simp only[List.flatten_cons]
   rw[List.getElem_append_right (by omega)]
   simp only[hcl,Nat.add_sub_cancel_left]
theorem KRel_own {w:World}{base:Nat}{T:TypeId}{lo:Option Addr}{cap:Nat}{xs:List KV}{css:List (List Value)}{P:Nat→Prop}(ho:w.ownsRow base T 11 (.slice lo xs.length cap) xs.length css.flatten)(hl:css.length=xs.length)(hr:∀ j (h1:j<xs.length) (h2:j<css.length),KRel w P xs[j] css[j])(hP:∀ k,(Value.slice lo xs.length cap).ownBlock=some k→P k):KRels w P xs lo 0:=by
 by_cases h0:xs=[]
 ·subst h0;rw[KRels];trivial
 ·have hp:0<xs.length:=List.length_pos_iff.2 h0
  obtain ⟨g,cg,hv,hb,hg,_,_⟩:=own_some ho hp
  simp only[Value.slice.injEq] at hv
  obtain ⟨rfl,_,rfl⟩:=hv
  have hfl:css.flatten.length=11 * xs.length:=by
   have:∀ c∈css,c.length=11:=fun c hc=>by
    obtain ⟨i,hi,rfl⟩:=List.getElem_of_mem hc
    exact (hr i (by omega) hi).len
   have aux:∀ (l:List (List Value)),(∀ c∈l,c.length=11)→l.flatten.length=11 * l.length:=fun l=>by
    induction l with
    | nil=>intro _;rfl
    | cons c l ih=>intro h;rw[List.flatten_cons,List.length_append,ih (fun x hx=>h x (List.mem_cons_of_mem _ hx)),h c (List.mem_cons_self ..),List.length_cons];omega
   rw[aux css this,hl]
  refine KRel_from (hP g rfl) hg xs css 0 hl.symm hr (fun i hi=>?_)
  rw[Nat.mul_zero,Nat.zero_add,ho.cellAt i (by omega),List.getElem?_eq_getElem hi]
def rB (num:Nat)(s:List UInt8):Rec:=⟨num,2,0,s,vput (8 * num+2)++(vput s.length++s)⟩
def rN (num n:Nat):Rec:=⟨num,0,n,[],vput (8 * num+0)++vput n⟩
end Go.Proofs.Ytmlghmjjlpioeaa
