/-
 message.Each, value.putList.
-/
import Derived.Test.YtjbingoliffjiaaGreatDoorValOut
import Derived.Test.YtjbingoliffjiaaGreatDoorMsgOpen
import Derived.Test.YtjbingoliffjiaaGreatDoorMsgRead
import Derived.Test.YtjbingoliffjiaaGreatDoorMsgMath
import Derived.Test.YtjbingoliffjiaaGreatDoorPartK
namespace Go.Proofs.YtjbingoliffjiaaGreatDoor
open Go.RowKit
theorem close_hok {ps qs:List (List UInt8)} {b g m:Bool} {num:Nat} (h1:1≤num) (h2:num≤536870911):(b||!g||!m)=false→(⟨num,ps.length,ps.flatten.length⟩:Hole).part<(wps (b||!g) ps [[]]++qs).length∧(wps (b||!g) ps [[]]++qs)[(⟨num,ps.length,ps.flatten.length⟩:Hole).part]? = some []∧(⟨num,ps.length,ps.flatten.length⟩:Hole).size≤(wps (b||!g) ps [[]]++qs).flatten.length∧1≤(⟨num,ps.length,ps.flatten.length⟩:Hole).num∧(⟨num,ps.length,ps.flatten.length⟩:Hole).num≤536870911:=by
 intro h
 have hb:(b||!g)=false:=by revert h;cases (b||!g)<;>simp
 rw[hb]
 simp only[wps]
 refine ⟨by simp,by simp,by simp,h1,h2⟩
open Go.RowKit
open Go.RowKit
open Go.RowKit
open Go.RowKit
open Go.RowKit
open Go.RowKit
end Go.Proofs.YtjbingoliffjiaaGreatDoor
