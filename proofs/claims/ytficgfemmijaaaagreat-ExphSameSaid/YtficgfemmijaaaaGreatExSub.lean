/-
  Exemplars as a part of lists.
-/
import Derived.Test.YtficgfemmijaaaaGreatRowL
import Derived.Test.YtficgfemmijaaaaGreatExBack
namespace Go.Proofs.YtficgfemmijaaaaGreat
open Go.RowKit
def exSb:Sub Ex where
 rd d t:=exrd t d
 out:=ex_out
 may d x:=ex_may d x
 fit x:=exF.fit x.1
 wt:=ex_wt
theorem ExRel.form {w:World} {P:Nat→Prop}:∀ {x:Ex} {c:List Value},ExRel w P x c→∃ (lo:Option Addr) (llo lc:Nat) (jt:Int) (jk:Int) (jn:Int) (Xa:ByteArray) (Xb:ByteArray) (Xu:ByteArray),c=[.slice lo llo lc,.int .u64 jt,.int .i64 jk,.int .u64 jn,.string Xa,.string Xb,.string Xu]
 | ((t,(((k,n),(a,b)),l)),u),c,h=>by
  obtain ⟨lo,lc,rfl,_⟩:=h
  exact ⟨_,_,_,_,_,_,_,_,_,rfl⟩
theorem cells7 {w:World} {g o j:Nat} {c0 c1 c2 c3 c4 c5 c6:Value} (h:Cells w g (o+7 * j) [c0,c1,c2,c3,c4,c5,c6]):w.cell? ⟨g,o+j * 7,none⟩=some c0∧w.cell? ⟨g,o+j * 7+1,none⟩=some c1∧w.cell? ⟨g,o+j * 7+2,none⟩=some c2∧w.cell? ⟨g,o+j * 7+3,none⟩=some c3∧w.cell? ⟨g,o+j * 7+4,none⟩=some c4∧w.cell? ⟨g,o+j * 7+5,none⟩=some c5∧w.cell? ⟨g,o+j * 7+6,none⟩=some c6:=by
 refine ⟨?_,?_,?_,?_,?_,?_,?_⟩
 ·have:=h 0 (by simp);rw[show o+j * 7=o+7 * j+0 by omega,this];rfl
 ·have:=h 1 (by simp);rw[show o+j * 7+1=o+7 * j+1 by omega,this];rfl
 ·have:=h 2 (by simp);rw[show o+j * 7+2=o+7 * j+2 by omega,this];rfl
 ·have:=h 3 (by simp);rw[show o+j * 7+3=o+7 * j+3 by omega,this];rfl
 ·have:=h 4 (by simp);rw[show o+j * 7+4=o+7 * j+4 by omega,this];rfl
 ·have:=h 5 (by simp);rw[show o+j * 7+5=o+7 * j+5 by omega,this];rfl
 ·have:=h 6 (by simp);rw[show o+j * 7+6=o+7 * j+6 by omega,this];rfl
end Go.Proofs.YtficgfemmijaaaaGreat
