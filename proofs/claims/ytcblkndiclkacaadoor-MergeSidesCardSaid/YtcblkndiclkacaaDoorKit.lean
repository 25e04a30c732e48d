/-
  General lemmas, over any program: bytes in a slice of the call's own, appends of one element, conversion to a string.
-/
import Derived.Test.YtcblkndiclkacaaDoorRows
import Derived.WalkKit
import Derived.WalkSpells
import Derived.WalkLawsBesides
import Derived.Lib.Hide
namespace Go.Proofs.YtcblkndiclkacaaDoor
open Go.RowKit
def bys (l:List UInt8):List Value:=l.map fun b => .int .u8 (b.toNat:Int)
@[simp] theorem bys_length (l:List UInt8):(bys l).length=l.length:=by simp[bys]
def Elem (P:Program) (t e:TypeId) (z:Value) (size bytes:Nat):Prop :=
 P.underlying t=some (.slice e)∧(P.info? e).map (fun i=>(i.zero,i.size,i.bytes))=some (some z,size,bytes)∧z.cells.size=size
section
variable {P:Program} {w:World}
theorem grownBy_of_alloc {w':World} {o:Obj} {row:Option Nat} (h:(w.alloc o).grownBy w' row):w.grownBy w' row :=
 ⟨h.os,h.tape,h.output,Nat.le_trans (by simp) h.size,fun k hk hne=>(h.block k (by simp;omega) hne).trans (Below.heap_alloc w o k hk)⟩
end
open Go.RowKit
theorem wrap_i32_def (n:Int):IntKind.i32.wrap n=if n % 4294967296<2147483648 then n % 4294967296 else n % 4294967296 - 4294967296:=by
 simp[IntKind.wrap,IntKind.bits,IntKind.signed]
 split<;>omega
def vgetGo:Nat→Nat→Nat→List UInt8→Except Nat (Nat × Nat)
 | 0,_,_,_ => .error 4
 | _+1,_,_,[] => .error 1
 | f+1,k,m,c::r=>if f=0∧1<c.toNat then .error 4 else if c.toNat<128 then .ok (m+c.toNat * 128 ^ k,k+1) else vgetGo f (k+1) (m+(c.toNat - 128) * 128 ^ k) r
open Go.RowKit
end Go.Proofs.YtcblkndiclkacaaDoor
