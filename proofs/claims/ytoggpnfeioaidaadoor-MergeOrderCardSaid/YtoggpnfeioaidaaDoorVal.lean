/-
  Attributes: the tree, how it is read, and how it lies in memory.
-/
import Derived.Test.YtoggpnfeioaidaaDoorMsgMath
import Derived.Test.YtoggpnfeioaidaaDoorErrNew
import Derived.Test.YtoggpnfeioaidaaDoorOrd
import Derived.Test.YtoggpnfeioaidaaDoorUtf2
import Derived.Test.YtoggpnfeioaidaaDoorWireRA
namespace Go.Proofs.YtoggpnfeioaidaaDoor
open Go.RowKit
mutual
inductive Val where
 | mk (kind:Int) (s:List UInt8) (b:Bool) (n:Nat) (l:List Val) (m:List KV) (inner unk:List UInt8)
inductive KV where
 | mk (key:List UInt8) (has:Bool) (v:Val) (unk:List UInt8)
end
def Val.zero:Val := .mk 0 [] false 0 [] [] [] []
def vtk (r:Rec):Bool:=decide ((r.num=1∨r.num=5∨r.num=6∨r.num=7)∧r.ty=2∨(r.num=2∨r.num=3)∧r.ty=0∨r.num=4∧r.ty=1)
def itk (r:Rec):Bool:=decide (r.num=1∧r.ty=2)
def ktk (r:Rec):Bool:=decide ((r.num=1∨r.num=2)∧r.ty=2)
structure One where
 r:Rec
 ps:List (List UInt8)
def one0:One:=⟨⟨0,0,0,[],[]⟩,[]⟩
def oput (o:One) (r:Rec):One:=⟨r,if r.num=o.r.num then o.ps++[r.s] else [r.s]⟩
def ostep (o:One) (r:Rec):Except Nat One:=if r.num=1∧uvalid r.s=false then .error 5 else .ok (oput o r)
def lstep {α:Type} (rd:List UInt8→Int→Except Nat α) (d:Int) (xs:List α) (r:Rec):Except Nat (List α):=match rd r.s d with
 | .error c => .error c
 | .ok x => .ok (xs++[x])
def lread {α:Type} (rd:List UInt8→Int→Except Nat α) (l:List UInt8) (d:Int):Except Nat (List α × List UInt8):=mread itk (lstep rd (d - 1)) [] l d
def kstep (st:List UInt8 × List (List UInt8)) (r:Rec):Except Nat (List UInt8 × List (List UInt8)) :=
 if r.num=1 then (if uvalid r.s then .ok (r.s,st.2) else .error 5) else .ok (st.1,st.2++[r.s])
def stands (vr:List UInt8→Int→Except Nat Val) (kr:List UInt8→Int→Except Nat KV) (o:One) (d:Int) (unk:List UInt8):Except Nat Val :=
 if o.r.num=1∨o.r.num=7 then .ok (.mk o.r.num o.r.s false 0 [] [] [] unk)
 else if o.r.num=2 then .ok (.mk o.r.num [] (!decide (o.r.n=0)) 0 [] [] [] unk)
 else if o.r.num=3∨o.r.num=4 then .ok (.mk o.r.num [] false o.r.n [] [] [] unk)
 else if o.r.num=5 then match lread vr o.ps.flatten d with
  | .error c => .error c
  | .ok (xs,i) => .ok (.mk o.r.num [] false 0 xs [] i unk)
 else if o.r.num=6 then match lread kr o.ps.flatten d with
  | .error c => .error c
  | .ok (xs,i) => .ok (.mk o.r.num [] false 0 [] xs i unk)
 else .ok (.mk o.r.num [] false 0 [] [] [] unk)
mutual
def vread:Nat→List UInt8→Int→Except Nat Val
 | 0,_,_ => .error 1
 | f+1,l,d=>match mread vtk ostep one0 l d with
  | .error c => .error c
  | .ok (o,unk)=>stands (vread f) (kread f) o (d - 1) unk
def kread:Nat→List UInt8→Int→Except Nat KV
 | 0,_,_ => .error 1
 | f+1,l,d=>match mread ktk kstep ([],[]) l d with
  | .error c => .error c
  | .ok (st,unk)=>if st.2=[] then .ok (.mk st.1 false .zero unk) else match vread f st.2.flatten (d - 1) with
   | .error c => .error c
   | .ok v => .ok (.mk st.1 true v unk)
end
def Cells (w:World) (g off:Nat) (cs:List Value):Prop:=∀ i (h:i<cs.length),w.cell? ⟨g,off+i,none⟩=some cs[i]
theorem Cells.upd {S:Nat→Prop} {w w':World} {g off:Nat} {cs:List Value} (h:Cells w g off cs) (hu:Upd S w w') (hg:g<w.heap.size) (hs:¬S g):Cells w' g off cs:=fun i hi =>
 (hu.cell (a:=⟨g,off+i,none⟩) hg hs).trans (h i hi)
mutual
def VRel (w:World) (P:Nat→Prop):Val→List Value→Prop
 | .mk k s b n l m i u,c=>∃ lo lc mo mc,c=[.int .i64 k,strV s,.bool b,.int .u64 (n:Int),.slice lo l.length lc,.slice mo m.length mc,strV i,strV u]∧VRels w P l lo 0∧KRels w P m mo 0
def KRel (w:World) (P:Nat→Prop):KV→List Value→Prop
 | .mk key has v u,c=>∃ cs,VRel w P v cs∧c=[strV key,.bool has]++cs++[strV u]
def VRels (w:World) (P:Nat→Prop):List Val→Option Addr→Nat→Prop
 | [],_,_=>True
 | x::xs,lo,j=>(∃ g off cs,lo=some ⟨g,off,none⟩∧P g∧g<w.heap.size∧Cells w g (off+8 * j) cs∧VRel w P x cs)∧VRels w P xs lo (j+1)
def KRels (w:World) (P:Nat→Prop):List KV→Option Addr→Nat→Prop
 | [],_,_=>True
 | x::xs,lo,j=>(∃ g off cs,lo=some ⟨g,off,none⟩∧P g∧g<w.heap.size∧Cells w g (off+11 * j) cs∧KRel w P x cs)∧KRels w P xs lo (j+1)
end
mutual
theorem VRel.upd {S:Nat→Prop} {w w':World} {P Q:Nat→Prop} (hu:Upd S w w') (hs:∀ k,P k→¬S k) (hq:∀ k,P k→Q k):∀ (x:Val) (c:List Value),VRel w P x c→VRel w' Q x c
 | .mk k s b n l m i u,c,h=>by
  rw[VRel] at h ⊢
  obtain ⟨lo,lc,mo,mc,hc,h1,h2⟩:=h
  exact ⟨lo,lc,mo,mc,hc,VRels.upd hu hs hq l lo 0 h1,KRels.upd hu hs hq m mo 0 h2⟩
theorem KRel.upd {S:Nat→Prop} {w w':World} {P Q:Nat→Prop} (hu:Upd S w w') (hs:∀ k,P k→¬S k) (hq:∀ k,P k→Q k):∀ (x:KV) (c:List Value),KRel w P x c→KRel w' Q x c
 | .mk key has v u,c,h=>by
  rw[KRel] at h ⊢
  obtain ⟨cs,h1,hc⟩:=h
  exact ⟨cs,VRel.upd hu hs hq v cs h1,hc⟩
theorem VRels.upd {S:Nat→Prop} {w w':World} {P Q:Nat→Prop} (hu:Upd S w w') (hs:∀ k,P k→¬S k) (hq:∀ k,P k→Q k):∀ (xs:List Val) (lo:Option Addr) (j:Nat),VRels w P xs lo j→VRels w' Q xs lo j
 | [],lo,j,_=>by rw[VRels];trivial
 | x::xs,lo,j,h=>by
  rw[VRels] at h ⊢
  obtain ⟨⟨g,off,cs,h1,h2,h3,h4,h5⟩,h6⟩:=h
  exact ⟨⟨g,off,cs,h1,hq g h2,Nat.lt_of_lt_of_le h3 hu.size,h4.upd hu h3 (hs g h2),VRel.upd hu hs hq x cs h5⟩,VRels.upd hu hs hq xs lo (j+1) h6⟩
theorem KRels.upd {S:Nat→Prop} {w w':World} {P Q:Nat→Prop} (hu:Upd S w w') (hs:∀ k,P k→¬S k) (hq:∀ k,P k→Q k):∀ (xs:List KV) (lo:Option Addr) (j:Nat),KRels w P xs lo j→KRels w' Q xs lo j
 | [],lo,j,_=>by rw[KRels];trivial
 | x::xs,lo,j,h=>by
  rw[KRels] at h ⊢
  obtain ⟨⟨g,off,cs,h1,h2,h3,h4,h5⟩,h6⟩:=h
  exact ⟨⟨g,off,cs,h1,hq g h2,Nat.lt_of_lt_of_le h3 hu.size,h4.upd hu h3 (hs g h2),KRel.upd hu hs hq x cs h5⟩,KRels.upd hu hs hq xs lo (j+1) h6⟩
end
theorem VRel.len {w:World} {P:Nat→Prop}:∀ {x:Val} {c:List Value},VRel w P x c→c.length=8
 | .mk k s b n l m i u,c,h=>by
  rw[VRel] at h
  obtain ⟨lo,lc,mo,mc,rfl,_⟩:=h
  rfl
theorem KRel.len {w:World} {P:Nat→Prop}:∀ {x:KV} {c:List Value},KRel w P x c→c.length=11
 | .mk key has v u,c,h=>by
  rw[KRel] at h
  obtain ⟨cs,h1,rfl⟩:=h
  simp[h1.len]
mutual
theorem VRel.lt {w:World} {P:Nat→Prop}:∀ (x:Val) (c:List Value),VRel w P x c→VRel w (fun k=>P k∧k<w.heap.size) x c
 | .mk k s b n l m i u,c,h=>by
  rw[VRel] at h ⊢
  obtain ⟨lo,lc,mo,mc,hc,h1,h2⟩:=h
  exact ⟨lo,lc,mo,mc,hc,VRels.lt l lo 0 h1,KRels.lt m mo 0 h2⟩
theorem KRel.lt {w:World} {P:Nat→Prop}:∀ (x:KV) (c:List Value),KRel w P x c→KRel w (fun k=>P k∧k<w.heap.size) x c
 | .mk key has v u,c,h=>by
  rw[KRel] at h ⊢
  obtain ⟨cs,h1,hc⟩:=h
  exact ⟨cs,VRel.lt v cs h1,hc⟩
theorem VRels.lt {w:World} {P:Nat→Prop}:∀ (xs:List Val) (lo:Option Addr) (j:Nat),VRels w P xs lo j→VRels w (fun k=>P k∧k<w.heap.size) xs lo j
 | [],lo,j,_=>by rw[VRels];trivial
 | x::xs,lo,j,h=>by
  rw[VRels] at h ⊢
  obtain ⟨⟨g,off,cs,h1,h2,h3,h4,h5⟩,h6⟩:=h
  exact ⟨⟨g,off,cs,h1,⟨h2,h3⟩,h3,h4,VRel.lt x cs h5⟩,VRels.lt xs lo (j+1) h6⟩
theorem KRels.lt {w:World} {P:Nat→Prop}:∀ (xs:List KV) (lo:Option Addr) (j:Nat),KRels w P xs lo j→KRels w (fun k=>P k∧k<w.heap.size) xs lo j
 | [],lo,j,_=>by rw[KRels];trivial
 | x::xs,lo,j,h=>by
  rw[KRels] at h ⊢
  obtain ⟨⟨g,off,cs,h1,h2,h3,h4,h5⟩,h6⟩:=h
  exact ⟨⟨g,off,cs,h1,⟨h2,h3⟩,h3,h4,KRel.lt x cs h5⟩,KRels.lt xs lo (j+1) h6⟩
end
def rB (num:Nat) (s:List UInt8):Rec:=⟨num,2,0,s,vput (8 * num+2)++(vput s.length++s)⟩
def rN (num n:Nat):Rec:=⟨num,0,n,[],vput (8 * num+0)++vput n⟩
end Go.Proofs.YtoggpnfeioaidaaDoor
