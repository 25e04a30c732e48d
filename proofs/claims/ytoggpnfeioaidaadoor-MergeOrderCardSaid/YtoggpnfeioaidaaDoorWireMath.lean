/-
  Records of the wire: what is read, over lists of bytes.
-/
import Derived.Test.YtoggpnfeioaidaaDoorGet
namespace Go.Proofs.YtoggpnfeioaidaaDoor
structure Rec where
 num:Nat
 ty:Nat
 n:Nat
 s:List UInt8
 raw:List UInt8
def wv (l:List UInt8):Except Nat (Nat × Nat):=vgetGo 10 0 0 l
def wlit:List UInt8→Nat
 | []=>0
 | b::r=>b.toNat+256 * wlit r
def whd (l:List UInt8):Except Nat (Nat × Nat × Nat):=match wv l with
 | .error c => .error c
 | .ok (t,j)=>if t / 8<1∨536870911<t / 8∨5<t % 8 then .error 3 else .ok (t / 8,t % 8,j)
def wbd (l:List UInt8) (ty:Nat):Except Nat (Nat × List UInt8 × Nat) :=
 if ty=1 then if l.length<8 then .error 1 else .ok (wlit (l.take 8),[],8)
 else if ty=5 then if l.length<4 then .error 1 else .ok (wlit (l.take 4),[],4)
 else match wv l with
  | .error c => .error c
  | .ok (n,j)=>if ty=0 then .ok (n,[],j) else if l.length - j<n then .error 1 else .ok (0,(l.drop j).take n,j+n)
def wadd (j:Nat):Except Nat Nat→Except Nat Nat
 | .error c => .error c
 | .ok k => .ok (j+k)
def wgr:Nat→List UInt8→List Nat→Int→Except Nat Nat
 | 0,_,_,_ => .error 1
 | f+1,l,st,d=>if st=[] then .ok 0 else if d<(st.length:Int) then .error 6 else
  match whd l with
  | .error c => .error c
  | .ok (num,ty,j) =>
   if ty=3 then wadd j (wgr f (l.drop j) (num::st) d)
   else if ty=4 then if st.head? = some num then wadd j (wgr f (l.drop j) st.tail d) else .error 3
   else match wbd (l.drop j) ty with
    | .error c => .error c
    | .ok (_,_,k)=>wadd (j+k) (wgr f (l.drop (j+k)) st d)
def wgroup (l:List UInt8) (st:List Nat) (d:Int):Except Nat Nat:=wgr (l.length+1) l st d
def wnx (l:List UInt8) (d:Int):Except Nat (Rec × Nat):=match whd l with
 | .error c => .error c
 | .ok (num,ty,j) =>
  if ty=4 then .error 3
  else if ty=3 then match wgroup (l.drop j) [num] d with
   | .error c => .error c
   | .ok k => .ok (⟨num,3,0,[],l.take (j+k)⟩,j+k)
  else match wbd (l.drop j) ty with
   | .error c => .error c
   | .ok (n,s,k) => .ok (⟨num,ty,n,s,l.take (j+k)⟩,j+k)
def wal:Nat→List UInt8→Int→Except Nat (List Rec)
 | 0,_,_ => .ok []
 | f+1,l,d=>if l=[] then .ok [] else match wnx l d with
  | .error c => .error c
  | .ok (r,j)=>match wal f (l.drop j) d with
   | .error c => .error c
   | .ok rs => .ok (r::rs)
def wall (l:List UInt8) (d:Int):Except Nat (List Rec):=wal l.length l d
end Go.Proofs.YtoggpnfeioaidaaDoor
