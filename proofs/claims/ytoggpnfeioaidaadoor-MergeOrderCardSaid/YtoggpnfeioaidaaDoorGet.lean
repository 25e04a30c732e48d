/-
  Kit, Get
-/
import Derived.Test.YtoggpnfeioaidaaDoorRows
import Derived.WalkKit
import Derived.WalkSpells
import Derived.WalkLawsBesides
import Derived.Lib.Hide
namespace Go.Proofs.YtoggpnfeioaidaaDoor
open Go.RowKit
def bys (l:List UInt8):List Value:=l.map fun b => .int .u8 (b.toNat:Int)
@[simp] theorem bys_length (l:List UInt8):(bys l).length=l.length:=by simp[bys]
theorem ret_int {k:IntKind} {a b:Int} (h:a=b):Ending.returned (.int k a) = .returned (.int k b):=by rw[h]
theorem ret_bool {a b:Bool} (h:a=b):Ending.returned (.bool a) = .returned (.bool b):=by rw[h]
def Elem (P:Program) (t e:TypeId) (z:Value) (size bytes:Nat):Prop :=
 P.underlying t=some (.slice e)∧(P.info? e).map (fun i=>(i.zero,i.size,i.bytes))=some (some z,size,bytes)∧z.cells.size=size
section
variable {P:Program} {w:World}
end
open Go.RowKit
theorem wrap_i64_def (n:Int):IntKind.i64.wrap n=if n % 18446744073709551616<9223372036854775808 then n % 18446744073709551616 else n % 18446744073709551616 - 18446744073709551616:=by
 simp[IntKind.wrap,IntKind.bits,IntKind.signed]
 split<;>omega
theorem wrap_i32_def (n:Int):IntKind.i32.wrap n=if n % 4294967296<2147483648 then n % 4294967296 else n % 4294967296 - 4294967296:=by
 simp[IntKind.wrap,IntKind.bits,IntKind.signed]
 split<;>omega
theorem toNat_ofInt64 (a:Int):((BitVec.ofInt 64 a).toNat:Int)=a % 18446744073709551616:=by
 rw[BitVec.toNat_ofInt];omega
theorem u64_and_one (n:Nat):bits .and .u64 (n:Int) 1=((n % 2:Nat):Int):=by
 show IntKind.u64.wrap ((BitVec.ofInt 64 (n:Int) &&& BitVec.ofInt 64 1).toNat:Int)=_
 rw[BitVec.toNat_and,show (BitVec.ofInt 64 1).toNat=1 from by decide,Nat.and_one_is_mod,IntKind.wrap_u64]
 have:=toNat_ofInt64 n
 omega
theorem wrap64_id {n:Int} (h1 : -9223372036854775808≤n) (h2:n≤9223372036854775807):wrap64 n=n:=by simp only[wrap64];omega
theorem i64_wrap_id {n:Int} (h1 : -9223372036854775808≤n) (h2:n≤9223372036854775807):IntKind.i64.wrap n=n:=by rw[wrap_i64_def];split<;>omega
theorem i32_wrap_id {n:Int} (h1 : -2147483648≤n) (h2:n≤2147483647):IntKind.i32.wrap n=n:=by rw[wrap_i32_def];split<;>omega
def zig (n:Int):Int:=if n<0 then -2 * n - 1 else 2 * n
def zag (n:Nat):Int:=if n % 2=1 then -(n / 2:Nat) - 1 else (n / 2:Nat)
def vputF:Nat→Nat→List UInt8
 | 0,n=>[UInt8.ofNat n]
 | f+1,n=>if n<128 then [UInt8.ofNat n] else UInt8.ofNat (n % 128+128)::vputF f (n / 128)
def vput (n:Nat):List UInt8:=vputF 9 n
def vgetGo:Nat→Nat→Nat→List UInt8→Except Nat (Nat × Nat)
 | 0,_,_,_ => .error 4
 | _+1,_,_,[] => .error 1
 | f+1,k,m,c::r=>if f=0∧1<c.toNat then .error 4 else if c.toNat<128 then .ok (m+c.toNat * 128 ^ k,k+1) else vgetGo f (k+1) (m+(c.toNat - 128) * 128 ^ k) r
open Go.RowKit
open Go.RowKit
open Go.RowKit
theorem at_any (n:Int) (t:TypeId) (v:Value) (w:World) :
  Calls Tryd.prog 18 #[.int .i64 n,.iface t v] w fun e w'=>e = .returned (.iface 90 (.pointer (some ⟨w.heap.size,0,none⟩)))∧w'=w.alloc (.cells #[.int .i64 n,.iface t v] 92):=by
 go_enter Tryd.func18,Tryd.ntmps18
 go_wp2
 all_goals go_ret
 all_goals exact ⟨rfl,rfl⟩
open Go.RowKit
end Go.Proofs.YtoggpnfeioaidaaDoor
