/-
  merge.Fit.
-/
import Derived.Test.YtoggpnfeioaidaaDoorMxPut
import Derived.Test.YtoggpnfeioaidaaDoorXpOpen
import Derived.Test.YtoggpnfeioaidaaDoorFrXp
namespace Go.Proofs.YtoggpnfeioaidaaDoor
open Go.RowKit
theorem aans_len {ps:List Pt} {o:Int} {C:List Nat} (h:aans ps=some (o,C)):C.length≤(width ps).toNat:=by
 unfold aans at h
 simp only at h
 split at h
 ·simp only[Option.some.injEq,Prod.mk.injEq] at h;obtain ⟨_,rfl⟩:=h;simp
 ·split at h
  ·cases h
  ·split at h
   ·cases h
   ·simp only[Option.some.injEq,Prod.mk.injEq] at h
    obtain ⟨_,rfl⟩:=h
    rw[afold_len];simp[width]
end Go.Proofs.YtoggpnfeioaidaaDoor
