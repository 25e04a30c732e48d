/-
  blame.Code, blame.Place, blame.Nums, blame.At, blame.In over a chain of wraps.
-/
import Derived.Test.YtficgfemmijaaaaGreatJoinLaid
import Derived.Test.YtficgfemmijaaaaGreatKit
namespace Go.Proofs.YtficgfemmijaaaaGreat
open Go.RowKit
open Lib (hid)
open Go.RowKit
theorem root_code (c:Int):isRoot (codeV c) := 
 ⟨c,rfl⟩
open Go.RowKit
theorem isErr_new {w:World}{a:Nat}{n c:Int}(h:w.heap[a]? = some (.cells #[.int .i64 n,.iface 104 (.int .i64 c)] 148 (0,0))):isErr w [(true,n)] (.iface 146 (.pointer (some ⟨a,0,none⟩))) (codeV c) :=
 ⟨a,codeV c,rfl,row_lt h,h,rfl⟩
theorem isErr_upd {S:Nat→Prop}{w w':World}{ws:List (Bool × Int)}{v r:Value}(hU:Upd S w w')(hS:∀ k,S k→∀ (b:Bool) (n:Int) (e:Value),w.heap[k]?≠some (.cells #[.int .i64 n,e] (wrapS b) (0,0)))(h:isErr w ws v r):isErr w' ws v r :=
 isErr_kept (fun k _ ho ⟨b,n,e,he⟩=>(hU.block k (row_lt ho) (fun hk=>hS k hk b n e (he ▸ ho))).trans ho) hU.size h
open Go.RowKit
theorem ErrNew.isErr {w:World}{n c:Int}{v:Value}{w':World}(h:ErrNew w n c v w'):isErr w' [(true,n)] v (codeV c):=by
 obtain ⟨⟨a,_,rfl,hh⟩,_⟩:=h;exact isErr_new hh
end Go.Proofs.YtficgfemmijaaaaGreat
