/-
  Attributes written: may they be, their bytes.
-/
import Derived.Test.YtmlghmjjlpioeaaGreatDoorValPlain
import Derived.Test.YtmlghmjjlpioeaaGreatDoorMsgOpen
import Derived.Test.YtmlghmjjlpioeaaGreatDoorAlikeB
namespace Go.Proofs.YtmlghmjjlpioeaaGreatDoor
open Go.RowKit
open Lib (hid)
def rF (num n:Nat):Rec:=⟨num,1,n,[],vput (8*num+1)++Yo 8 n⟩
def vrec (k:Int)(s:List UInt8)(b:Bool)(n:Nat)(L M i:List UInt8):List UInt8 :=
  if k=1∨k=7 then(rB k.toNat s).raw
  else if k=2 then(rN 2 (if b then 1 else n)).raw
  else if k=3 then(rN 3 n).raw
  else if k=4 then(rF 4 n).raw
  else if k=5 then(rB 5 (L++i)).raw
  else if k=6 then(rB 6 (M++i)).raw
  else []
def krec (key:List UInt8):List UInt8:=if key=[]then []else(rB 1 key).raw
mutual
def vout:Val->List UInt8
  | .mk k s b n l m i u=>vrec k s b n (y3 1 l) (zx 1 m) i++u
def kout:KV->List UInt8
  | .mk key has v u=>(krec key++(if has then(rB 2 (vout v)).raw else []))++u
def y3:Nat->List Val->List UInt8
  | _,[]=>[]
  | num,x::xs=>(rB num (vout x)).raw++y3 num xs
def zx:Nat->List KV->List UInt8
  | _,[]=>[]
  | num,x::xs=>(rB num (kout x)).raw++zx num xs
end
def vnone:Val->Bool
  | .mk k s b n l m i u=>decide (k=0)&&u.isEmpty&&vpl k s.isEmpty b n l.length m.length i.isEmpty
mutual
def vmay:Val->Int->Bool
  | .mk k s b n l m i u,d=>(vpl k s.isEmpty b n l.length m.length i.isEmpty&&(!decide (k=1)||xb s)&&(!decide (k=5∨k=6)||(decide (1<=d)&&((qt l (d-1)&&xk m (d-1))&&zp itk i (d-1)))))&&zp vtk u d
def kmay:KV->Int->Bool
  | .mk key has v u,d=>(xb key&&(if has then decide (1<=d)&&vmay v (d-1)else vnone v))&&zp ktk u d
def qt:List Val->Int->Bool
  | [],_=>true
  | x::xs,d=>(decide (1<=d)&&vmay x (d-1))&&qt xs d
def xk:List KV->Int->Bool
  | [],_=>true
  | x::xs,d=>(decide (1<=d)&&kmay x (d-1))&&xk xs d
end
def vb:Val->Nat
  | .mk _ s _ _ l m i u=>20+s.length+i.length+u.length+vsw l+ksw m
def kb:KV->Nat
  | .mk key _ v u=>20+key.length+u.length+vw v
theorem Jx (x:Val):vw x=vb x+40:=by cases x;rw[vw,vb];omega
theorem Kc (x:KV):kw x=kb x+20:=by cases x;rw[kw,kb];omega
theorem z9j:∀(l:List Val),l.length*60<=vsw l
  | []=>by simp
  | x::xs=>by rw[vsw,List.length_cons];have:=z9j xs;have:=Jx x;cases x;rw[vb]at this;omega
theorem Jd:∀(l:List KV),l.length*40<=ksw l
  | []=>by simp
  | x::xs=>by rw[ksw,List.length_cons];have:=Jd xs;have:=Kc x;cases x;rw[kb]at this;omega
mutual
theorem Xw:∀x:Val,(vout x).length<=vb x
 | .mk k s b n l m i u=>by
  rw[vout,vb,List.length_append];have h1:=Kn 1 (by omega) l;have h2:=Q0 1 (by omega) m
  have hB:∀(num:Nat) (t:List UInt8),(rB num t).raw.length<=20+t.length:=fun num t=>by
   show(vput (8*num+2)++(vput t.length++t)).length<=_
   rw[List.length_append,List.length_append];have:=qq (8*num+2);have:=qq t.length;omega
  have hN:∀(num t:Nat),(rN num t).raw.length<=20:=fun num t=>by
   show(vput (8*num+0)++vput t).length<=_
   rw[List.length_append];have:=qq (8*num+0);have:=qq t;omega
  have hF:∀(num t:Nat),(rF num t).raw.length<=20:=fun num t=>by
   show(vput (8*num+1)++Yo 8 t).length<=_
   rw[List.length_append,Xc];have:=qq (8*num+1);omega
  have : (vrec k s b n (y3 1 l) (zx 1 m) i).length<=20+s.length+i.length+vsw l+ksw m:=by
   unfold vrec
   split
   ·have:=hB k.toNat s;omega
   ·split
    ·have:=hN 2 (if b then 1 else n);omega
    ·split
     ·have:=hN 3 n;omega
     ·split
      ·have:=hF 4 n;omega
      ·split
       ·have:=hB 5 (y3 1 l++i);rw[List.length_append]at this;omega
       ·split
        ·have:=hB 6 (zx 1 m++i);rw[List.length_append]at this;omega
        ·simp
  omega
theorem Xv:∀x:KV,(kout x).length<=kb x
 | .mk key has v u=>by
  rw[kout,kb,List.length_append,List.length_append];have h1:=Xw v;have h2:=Jx v
  have hB:∀(num:Nat) (t:List UInt8),(rB num t).raw.length<=20+t.length:=fun num t=>by
   show(vput (8*num+2)++(vput t.length++t)).length<=_
   rw[List.length_append,List.length_append];have:=qq (8*num+2);have:=qq t.length;omega
  have h3:(krec key).length<=20+key.length:=by
   unfold krec
   split
   ·simp
   ·exact hB 1 key
  have h4:=hB 2 (vout v)
  cases has<;>simp<;>omega
theorem Kn:∀(num:Nat),num<=536870911->∀l:List Val,(y3 num l).length<=vsw l
 | num,hn,[]=>by rw[y3];simp
 | num,hn,x::xs=>by
  rw[y3,vsw,List.length_append];have h1:=Xw x;have h2:=Jx x;have h3:=Kn num hn xs
  have h4:(rB num (vout x)).raw.length<=20+(vout x).length:=by
   show(vput (8*num+2)++(vput (vout x).length++vout x)).length<=_
   rw[List.length_append,List.length_append];have:=qq (8*num+2);have:=qq (vout x).length;omega
  omega
theorem Q0:∀(num:Nat),num<=536870911->∀l:List KV,(zx num l).length<=ksw l
 | num,hn,[]=>by rw[zx];simp
 | num,hn,x::xs=>by
  rw[zx,ksw,List.length_append];have h1:=Xv x;have h2:=Kc x;have h3:=Q0 num hn xs
  have h4:(rB num (kout x)).raw.length<=20+(kout x).length:=by
   show(vput (8*num+2)++(vput (kout x).length++kout x)).length<=_
   rw[List.length_append,List.length_append];have:=qq (8*num+2);have:=qq (kout x).length;omega
  omega
end
def Yd (x:Val)(d:Int):Bool:=decide (0<=d)&&vmay x d
def X3 (x:KV)(d:Int):Bool:=decide (0<=d)&&kmay x d
theorem z58 (d:Int):∀l:List Val,qt l (d-1)=l.all fun x=>Yd x (d-2)
 | []=>by rw[qt];rfl
 | x::xs=>by
  rw[qt,z58 d xs,List.all_cons,Yd,show d-1-1=d-2 by omega]
  congr 2
  congr 1
  exact propext ⟨fun h=>by omega,fun h=>by omega⟩
theorem z54 (d:Int):∀l:List KV,xk l (d-1)=l.all fun x=>X3 x (d-2)
 | []=>by rw[xk];rfl
 | x::xs=>by
  rw[xk,z54 d xs,List.all_cons,X3,show d-1-1=d-2 by omega]
  congr 2
  congr 1
  exact propext ⟨fun h=>by omega,fun h=>by omega⟩
end Go.Proofs.YtmlghmjjlpioeaaGreatDoor
