/-
  RowL, FmB
-/
import Derived.Test.YtoggpnfeioaidaaDoorFld
import Derived.Test.YtoggpnfeioaidaaDoorExBack
import Derived.Test.YtoggpnfeioaidaaDoorFmA
namespace Go.Proofs.YtoggpnfeioaidaaDoor
open Go.RowKit
structure LPart (σ:Type) (lo:Nat) where
 V:Type
 rel:σ→V→(Nat→Prop)→World→Prop
 lt:∀ {st v P w},rel st v P w→∀ k,P k→lo≤k∧k<w.heap.size
 kept:∀ {st v P w w'},rel st v P w→Upd (fun k=>¬P k) w w'→rel st v P w'
 same:σ→σ→Prop
 conv:∀ {st st' v P w},same st st'→rel st v P w→rel st' v P w
section
variable {σ:Type} {bx:Nat} {A:LPart σ (bx+1)} {T0:TypeId} {row:σ→A.V→Array Value} {st st':σ} {v:A.V} {P1:Nat→Prop} {w:World}
end
def lmays {α:Type} (S:Sub α) (l:List α) (d:Int):Bool:=l.all fun x=>decide (1≤d)&&S.may (d - 1) x
def lwt {α:Type} (S:Sub α) (l:List α):Nat:=lsum (l.map S.wt)
section
variable {α:Type} {S:Sub α}
theorem lwt_cons (x:α) (l:List α):lwt S (x::l)=S.wt x+lwt S l:=rfl
theorem lwt_len {k:Nat} (h:∀ x,k≤S.wt x):∀ l:List α,l.length * k≤lwt S l
 | []=>by simp
 | x::l=>by rw[lwt_cons,List.length_cons,Nat.add_mul];have:=lwt_len h l;have:=h x;omega
end
open Go.RowKit
def exSb:Sub Ex where
 rd d t:=exrd t d
 out:=ex_out
 may d x:=ex_may d x
 fit x:=exF.fit x.1
 wt:=ex_wt
end Go.Proofs.YtoggpnfeioaidaaDoor
namespace Go.Proofs.YtoggpnfeioaidaaDoor.Fm
def K (S j m:Nat):Prop:=m<2^64∧m=stk (1024*S) j∧(2^61≤m∨m*2^j=1024*S)
end Go.Proofs.YtoggpnfeioaidaaDoor.Fm
