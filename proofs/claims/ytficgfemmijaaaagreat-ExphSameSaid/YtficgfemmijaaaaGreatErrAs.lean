/-
  errors.as and errors.As over a chain of wraps.
-/
import Derived.Test.YtficgfemmijaaaaGreatUpd
import Derived.Deep.LoopGhost
namespace Go.Proofs.YtficgfemmijaaaaGreat
open Go.RowKit Go.Extern.Stop Go.Stop Go.Extern
def wrapT (b:Bool):TypeId:=if b then 146 else 114
def wrapS (b:Bool):TypeId:=if b then 148 else 116
def isErr (w:World):List (Bool × Int)→Value→Value→Prop
 | [],v,r=>v=r
 | (b,n)::ws,v,r=>∃ a e,v = .iface (wrapT b) (.pointer (some ⟨a,0,none⟩))∧a<w.heap.size∧w.heap[a]? = some (.cells #[.int .i64 n,e] (wrapS b) (0,0))∧isErr w ws e r
def codeV (c:Int):Value := .iface 104 (.int .i64 c)
def isRoot (r:Value):Prop:=(∃ c,r=codeV c)
theorem isErr_kept {w w':World} (hk:∀ (k:Nat) (o:Obj),w.heap[k]? = some o→(∃ (b:Bool) (n:Int) (e:Value),o=Obj.cells #[Value.int .i64 n,e] (wrapS b) (0,0))→w'.heap[k]? = some o) (hs:w.heap.size≤w'.heap.size) :
  ∀ {ws:List (Bool × Int)} {v r:Value},isErr w ws v r→isErr w' ws v r
 | [],_,_,h=>h
 | (b,n)::_,_,_,⟨a,e,hv,ha,hh,hr⟩=>⟨a,e,hv,Nat.lt_of_lt_of_le ha hs,hk a _ hh ⟨b,n,e,rfl⟩,isErr_kept hk hs hr⟩
theorem isErr_below {w w':World} (hb:Below w.heap.size w w'):∀ {ws:List (Bool × Int)} {v r:Value},isErr w ws v r→isErr w' ws v r :=
 isErr_kept (fun k _ h _=>(hb.block k (Array.getElem?_eq_some_iff.1 h).1).trans h) hb.size
theorem isRoot_iface {r:Value} (h:isRoot r):∃ T x,r = .iface T x:=by
 obtain ⟨c,rfl⟩:=h;exact ⟨_,_,rfl⟩
theorem isErr_iface {w:World} {ws:List (Bool × Int)} {v r:Value} (h:isErr w ws v r) (hr:isRoot r):∃ T x,v = .iface T x:=by
 cases ws with
 | nil=>obtain ⟨T,x,rfl⟩:=isRoot_iface hr;exact ⟨_,_,h⟩
 | cons y ws=>obtain ⟨a,e,hv,_⟩:=h;exact ⟨_,_,hv⟩
end Go.Proofs.YtficgfemmijaaaaGreat
