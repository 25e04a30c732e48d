/-
  XrFld, XpBack
-/
import Derived.Test.YtoggpnfeioaidaaDoorFnl
import Derived.Test.YtoggpnfeioaidaaDoorFmB
import Derived.Test.YtoggpnfeioaidaaDoorCkTot
namespace Go.Proofs.YtoggpnfeioaidaaDoor
open Go.RowKit
def xrF:Fld:=(listF 1 kvS).and ((numF 2).and ((numF 3).and ((numF 4).and ((optF 5).and ((zigF 6).and ((numF 7).and ((partF 8).and ((partF 9).and ((var32F 10).and ((listF 11 exSb).and ((optF 12).and ((optF 13).and (numF 14)))))))))))))
open Go.RowKit
abbrev Xp:Type:=(List KV × Nat × Nat × Nat × (Bool × Nat) × Int × Nat × (Bool × Bk × List UInt8) × (Bool × Bk × List UInt8) × Nat × List Ex × (Bool × Nat) × (Bool × Nat) × Nat) × List UInt8
def xp_may (d:Int):Xp→Bool
 | ((l,(_,(_,(_,((bp,vp),(_,(_,((gp,pb,pu),((gn,nb,nu),(_,(es,((bm,vm),((bg,vg),_))))))))))))),u)=>decide (0≤d)&&((kmays l d&&((bp||decide (vp=0))&&((if gp=true then decide (1≤d)&&bmay pu (d - 1) else bkz (pb,pu))&&((if gn=true then decide (1≤d)&&bmay nu (d - 1) else bkz (nb,nu))&&(lmays exSb es d&&((bm||decide (vm=0))&&(bg||decide (vg=0))))))))&&munkOk xrF.tk u d)
def xp_wt:Xp→Nat
 | ((l,(_,(_,(_,((_,_),(_,(_,((_,pb,pu),((_,nb,nu),(_,(es,((_,_),((_,_),_))))))))))))),u)=>100+(ksw l+10 * pb.cs.length+pu.length+10 * nb.cs.length+nu.length+lwt exSb es+u.length)
def xp_arg:Xp→Prop
 | ((l,(a,(t,(k,((_,vp),(sc,(zc,((_,pb,pu),((_,nb,nu),(f,(es,((_,vm),((_,vg),th))))))))))))),u)=>ksfit l∧kslim l∧l.length≤9223372036854775807∧a<18446744073709551616∧t<18446744073709551616∧k<18446744073709551616∧vp<18446744073709551616∧(-2147483648≤sc∧sc≤2147483647)∧zc<18446744073709551616∧BkOk pb∧pb.cs.length≤9223372036854775807∧pu.length≤9223372036854775807∧BkOk nb∧nb.cs.length≤9223372036854775807∧nu.length≤9223372036854775807∧f<4294967296∧(∀ x∈es,ex_arg x)∧es.length≤9223372036854775807∧vm<18446744073709551616∧vg<18446744073709551616∧th<18446744073709551616∧u.length≤9223372036854775807
end Go.Proofs.YtoggpnfeioaidaaDoor
